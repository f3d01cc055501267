/- Both parsers, part 4. -/
import Derived.Deep.RegionHeld
import Derived.Deep.LoopGhost
import Derived.Recover
import Derived.Test.YtnhidldofjengaaGreatDoorLexRD
namespace Go.Proofs.YtnhidldofjengaaGreatDoor
open Go.RowKit
open List renaming getElem_toArray->gA,getElem_cons_zero->gB,getElem_cons_succ->gC,setIfInBounds_toArray->gD,set_cons_zero->gE,set_cons_succ->gF
set_option linter.unusedVariables false
set_option linter.unusedSimpArgs false
set_option maxRecDepth 100000
set_option maxHeartbeats 4000000
section
theorem eO (v0 v1 v2 v3:Value) (w:World):(Instr.field 53 (.agg #[v0,v1,v2,v3]) 0).run Tryz.prog w= .ok v0 w:=by kernel_rfl
theorem eP (v0 v1 v2 v3:Value) (w:World):(Instr.field 53 (.agg #[v0,v1,v2,v3]) 1).run Tryz.prog w= .ok v1 w:=by kernel_rfl
theorem eT (v0 v1 v2 v3:Value) (w:World):(Instr.field 53 (.agg #[v0,v1,v2,v3]) 2).run Tryz.prog w= .ok v2 w:=by kernel_rfl
theorem eu (v0 v1 v2 v3:Value) (w:World):(Instr.field 53 (.agg #[v0,v1,v2,v3]) 3).run Tryz.prog w= .ok v3 w:=by kernel_rfl
attribute [local go_sem ↓] eO eP eT eu
theorem iO (E:Env) (w:World) (x:T) (r:List T) (o:Nat) (h:PS E w (x :: r) o):
  Calls Tryz.prog 21 #[.pointer (some ⟨E.b,0,none⟩)] w fun e w'=>e= .returned (.agg #[.int .i64 x.1.k,.string (bs x.1.t),.int .i64 x.1.n,.int .i64 x.2])/\Below w.heap.size w w':=by
 obtain ⟨⟨tk,tt,tn⟩,p⟩:=x
 have hh:=h.here
 have hbl:=h.blk
 have hlt:=h.lt
 have hll:=h.len
 obtain ⟨j,hj⟩:=aS (E.ts.length - (r.length+1))
 have hjl:j < E.ts.length:=by
  rw [hj] at hh
  exact (List.getElem?_eq_some_iff.1 hh).1
 have hht:=h.toks
 obtain ⟨B,hB⟩:=aS E.b
 obtain ⟨G,hG⟩:=aS E.g
 obtain ⟨N,hN⟩:=aS E.ts.length
 obtain ⟨C,hC⟩:=aS E.c
 unfold psC at hbl
 simp only [List.length_cons] at hbl
 rw [hj] at hh hbl
 rw [hN,hB,hG,hC] at hbl
 rw [hB] at hlt |-
 rw [hN] at hjl hll
 obtain ⟨q0,q1,q2,q3⟩:=hht.cell j _ hh
 have hgl:=hht.lt
 rw [hG] at q0 q1 q2 q3 hgl
 dsimp only at q0 q1 q2 q3
 have j0:(0:Int)<=(j:Int):=by omega
 have j1:(j:Int) < (N:Int):=by omega
 clear h hh hht hj hG hN hC hB
 go_enter Tryz.func21,Tryz.ntmps21
 go_wp2
 refine Yv 10 (by kernel_rfl) (by kernel_rfl) ?_
 intro W hW
 have hgr:Below w.heap.size w W:=by subst hW;exact (((Below.refl _ _).alloc (Nat.le_refl _) _).drew)
 have k0:=(hgr.cell (p:=⟨B,0,none⟩) hlt).trans (hbl.cell 0)
 have k1:=(hgr.cell (p:=⟨B,1,none⟩) hlt).trans (hbl.cell 1)
 have t0:=(hgr.cell (p:=⟨G,_,none⟩) hgl).trans q0
 have t1:=(hgr.cell (p:=⟨G,_,none⟩) hgl).trans q1
 have t2:=(hgr.cell (p:=⟨G,_,none⟩) hgl).trans q2
 have t3:=(hgr.cell (p:=⟨G,_,none⟩) hgl).trans q3
 simp only [List.getElem?_toArray,List.getElem?_cons_zero,List.getElem?_cons_succ] at k0 k1
 simp only [List.take_succ_cons,List.take_zero,List.drop_succ_cons,List.drop_zero]
 repeat still_step
 refine wpStill_nil ?_
 clear k0 k1 t0 t1 t2 t3 hgr
 subst hW
 go_wp2
 exact bodyPost_ret (v:=.agg #[.int .i64 tk,.string (bs tt),.int .i64 tn,.int .i64 p]) (by simp [results,Tryz.results21,go_sem]) rfl ⟨rfl,((Below.refl _ _).alloc (Nat.le_refl _) _).drew⟩
theorem aH (E:Env) (w:World) (l:List T) (o:Nat) (h:PS E w l o):
  Calls Tryz.prog 37 #[.pointer (some ⟨E.b,0,none⟩)] w fun e w'=>e= .returned (.string (bs (mark l)))/\Below w.heap.size w w':=by
 obtain ⟨x,r,rfl⟩:=h.cons
 have H:=af h
 clear h
 rw [yw]
 obtain ⟨⟨tk,tt,tn⟩,p⟩:=x
 dsimp only
 by_cases h2:tk=2
 ·subst h2
  rw [if_pos (.inl rfl)]
  go_enter Tryz.func37,Tryz.ntmps37
  go_wp2_with (go_at_call 21;refine (iO E _ _ _ _ H.out).mono ?_;rintro e w1 ⟨rfl,hb⟩)
  go_ret
  exact ⟨rfl,hb.alloc hb.size _⟩
 by_cases h5:tk=5
 ·subst h5
  rw [if_pos (.inr rfl)]
  go_enter Tryz.func37,Tryz.ntmps37
  go_wp2_with (go_at_call 21;refine (iO E _ _ _ _ H.out).mono ?_;rintro e w1 ⟨rfl,hb⟩)
  go_ret
  exact ⟨rfl,hb.alloc hb.size _⟩
 rw [if_neg (fun h=>h.elim h2 h5)]
 have e2:(tk == 2)=false:=by simpa using h2
 have e5:(tk == 5)=false:=by simpa using h5
 clear h2 h5
 go_enter Tryz.func37,Tryz.ntmps37
 go_wp2_with (go_at_call 21;refine (iO E _ _ _ _ H.out).mono ?_;rintro e w1 ⟨rfl,hb⟩)
 go_ret
 exact ⟨rfl,hb.alloc hb.size _⟩
theorem sW (E:Env) (w:World) (x:T) (r:List T) (o:Nat) (h:PS E w (x :: r) o):
  Calls Tryz.prog 38 #[.pointer (some ⟨E.b,0,none⟩)] w fun e w'=>e=(.panicked [{ v:=.iface 38 (.agg #[.int .i64 x.2,.int .i64 5]),recovered:=false }])/\Below w.heap.size w w':=by
 have H:=af h
 clear h
 go_enter Tryz.func38,Tryz.ntmps38
 go_wp2_with (go_at_call 21;refine (iO E _ _ _ _ H.out).mono ?_;rintro e w1 ⟨rfl,hb⟩)
 exact ⟨rfl,rfl,hb⟩
theorem PS.cells {E:Env} {w:World} {l:List T} {o:Nat} (h:PS E w l o):
  w.cell? ⟨E.b,0,none⟩=some (.slice (some ⟨E.g,0,none⟩) E.ts.length E.c)/\w.cell? ⟨E.b,1,none⟩=some (.int .i64 ((E.ts.length - l.length:Nat):Int))/\w.cell? ⟨E.b,2,none⟩=some (.int .i64 (o:Int))/\∀i,w.frozen? ⟨E.b,i,none⟩=false:=
 ⟨h.blk.cell 0,h.blk.cell 1,h.blk.cell 2,fun i=>h.blk.frozen i⟩
theorem UT {w w1:World} {v0 v1 v2 v3:Value} {t:TypeId} (hb:Below (w.alloc (.cells #[v0,v1,v2,v3] t)).heap.size (w.alloc (.cells #[v0,v1,v2,v3] t)) w1):
  w.heap.size < w1.heap.size/\w1.cell? ⟨w.heap.size,0,none⟩=some v0/\w1.cell? ⟨w.heap.size,1,none⟩=some v1/\w1.cell? ⟨w.heap.size,2,none⟩=some v2/\w1.cell? ⟨w.heap.size,3,none⟩=some v3/\∀i,w1.frozen? ⟨w.heap.size,i,none⟩=false:=by
 obtain ⟨q0,q1,q2,_⟩:=kQ hb
 exact ⟨q2,q0 0 _ rfl,q0 1 _ rfl,q0 2 _ rfl,q0 3 _ rfl,q1⟩
theorem iK (E:Env) (w:World) (x:T) (r:List T) (o:Nat) (h:PS E w (x :: r) o) (hx:x.1.k≠0):
  Calls Tryz.prog 39 #[.pointer (some ⟨E.b,0,none⟩)] w fun e w'=>e= .returned (.agg #[.int .i64 x.1.k,.string (bs x.1.t),.int .i64 x.1.n,.int .i64 x.2])/\Gr (·=E.b) w w'/\PS E w' r o:=by
 have hgt:=h.toks.lt
 have hlt:=h.lt
 have hll:=h.len
 have hlr:r.length < E.ts.length:=by have:=h.Nn.length_le;simp at this;omega
 obtain ⟨j,hj⟩:=aS (E.ts.length - (x :: r).length)
 have hj2:j+1=E.ts.length - r.length:=by simp at hj;omega
 have H:=af h
 have HX:=af hx
 have HJ:=af hj
 have HJ2:=af hj2
 have j0:(0:Int)<=(j:Int):=by omega
 have j1:(j:Int)<=8193:=by omega
 clear h hx hj hj2 hlr hll
 go_enter Tryz.func39,Tryz.ntmps39
 go_wp2_with (go_at_call 21;refine (iO E _ _ _ _ (H.out.alloc _)).mono ?_;rintro e w1 ⟨rfl,hb⟩;have hP1:PS E w1 (x :: r) o:=(H.out.alloc _).below hb;obtain ⟨_,k1,k2,kf⟩:=hP1.cells;rw [HJ.out] at k1;have hz:=hb.size;simp at hz;have hbw:E.b < w1.heap.size:=hP1.lt;obtain ⟨zl,z0,z1,z2,z3,zf⟩:=UT hb;have zb:¬w.heap.size=E.b:=Nat.ne_of_gt hlt;have zg:¬w.heap.size=E.g:=Nat.ne_of_gt hgt;have hG1:Gr (·=E.b) w w1:=Gr.trans aJ (Gr.of_below hb))
 exact bodyPost_ret (v:=(.agg #[.int .i64 x.1.k,.string (bs x.1.t),.int .i64 x.1.n,.int .i64 x.2])) (by simp [results,Tryz.results39,go_sem,zl,z0,z1,z2,z3]) rfl ⟨rfl,aJ,by (have hPt:=PS.taken hP1 HX.out (.int .i64 ((j:Int)+1)) (by rw [<-HJ2.out];simp));exact aO⟩
theorem iC (l:List UInt8):(bs l).toList=l:=by rw [ByteArray.toList_eq];rfl
theorem Cc {l m:List UInt8} (h:¬l=m):((bs l).toList == (bs m).toList)=false:=by rw [iC,iC];simpa using h
theorem bH (x:T) (r:List T) (f:T->List T->R):dI (x :: r) f=f x r:=rfl
theorem rF (x:T) (r:List T):refuse (x :: r)= .bad x.2 5:=rfl
def UU (E:Env) (w:World) (o:Nat) (f:T->List T->R) (r:R) (e:Ending) (w':World):Prop:=
 Gr (·=E.b) w w'/\((∃a k,r= .bad a k/\e=(.panicked [{ v:=.iface 38 (.agg #[.int .i64 a,.int .i64 k]),recovered:=false }]))\/∃x l,e= .returned (.agg #[.int .i64 x.1.k,.string (bs x.1.t),.int .i64 x.1.n,.int .i64 x.2])/\f x l=r/\PS E w' l o)
theorem ag.gr {S:Nat->Prop} {w w':World} {g:Nat} {t:TypeId} {cs:Array Value} (hb:ag w g t cs) (h:Gr S w w') (hs:¬S g):ag w' g t cs:=h.blk hb hs
theorem ag.jX {w:World} {h:Nat} {t:TypeId} {v0 v1 v2 v3:Value} (k:ag w h t #[v0,v1,v2,v3]):h < w.heap.size/\w.cell? ⟨h,0,none⟩=some v0/\w.cell? ⟨h,1,none⟩=some v1/\w.cell? ⟨h,2,none⟩=some v2/\w.cell? ⟨h,3,none⟩=some v3/\∀i,w.frozen? ⟨h,i,none⟩=false:=
 ⟨k.lt,k.cell 0,k.cell 1,k.cell 2,k.cell 3,k.frozen⟩
theorem ag.av {w:World} {h:Nat} {t:TypeId} {v0 v1 v2 v3 v4 v5 v6:Value} (k:ag w h t #[v0,v1,v2,v3,v4,v5,v6]):h < w.heap.size/\w.cell? ⟨h,0,none⟩=some v0/\w.cell? ⟨h,1,none⟩=some v1/\w.cell? ⟨h,2,none⟩=some v2/\w.cell? ⟨h,3,none⟩=some v3/\w.cell? ⟨h,4,none⟩=some v4/\w.cell? ⟨h,5,none⟩=some v5/\w.cell? ⟨h,6,none⟩=some v6/\∀i,w.frozen? ⟨h,i,none⟩=false:=
 ⟨k.lt,k.cell 0,k.cell 1,k.cell 2,k.cell 3,k.cell 4,k.cell 5,k.cell 6,k.frozen⟩
theorem YE {fn:Func} {p:Tmp} {R:Ending->World->Prop} {a:Act} {w:World} {z:Nat} {v0 v1 v2 v3:Value} (h:fn.results=#[.cell p 53]) (hp:a.tmps.getD p undef= .pointer (some ⟨z,0,none⟩)) (hd:a.defers=[])
  (hb:ag w z 53 #[v0,v1,v2,v3]) (hR:R (.returned (.agg #[v0,v1,v2,v3])) w):bodyPost Tryz.prog fn R .ret a w:=
 bodyPost_ret (results_cell_row h a.tmps w z _ _ (0,0) _ hp hb Tryz.underlying53 rfl (by kernel_rfl)) hd hR
theorem ag.seven {w:World} {h:Nat} {t:TypeId} {u0 u1 u2 u3 u4 u5 u6:Value} (k:ag w h t #[u0,u1,u2,u3,u4,u5,u6]) (v0 v1 v2 v3 v4 v5 v6:Value):ag (((((((w.setCell ⟨h,0,none⟩ v0).setCell ⟨h,1,none⟩ v1).setCell ⟨h,2,none⟩ v2).setCell ⟨h,3,none⟩ v3).setCell ⟨h,4,none⟩ v4).setCell ⟨h,5,none⟩ v5).setCell ⟨h,6,none⟩ v6) h t #[v0,v1,v2,v3,v4,v5,v6]:=by
 have:=((((((k.ny 0 v0).ny 1 v1).ny 2 v2).ny 3 v3).ny 4 v4).ny 5 v5).ny 6 v6
 simpa using this
theorem ag.four {w:World} {h:Nat} {t:TypeId} {u0 u1 u2 u3:Value} (k:ag w h t #[u0,u1,u2,u3]) (v0 v1 v2 v3:Value):ag ((((w.setCell ⟨h,0,none⟩ v0).setCell ⟨h,1,none⟩ v1).setCell ⟨h,2,none⟩ v2).setCell ⟨h,3,none⟩ v3) h t #[v0,v1,v2,v3]:=
 (((k.ny 0 v0).ny 1 v1).ny 2 v2).ny 3 v3
theorem bT (E:Env) (w:World) (l:List T) (o:Nat) (m:List UInt8) (s:ByteArray) (f:T->List T->R) (r:R) (hP:PS E w l o) (hs:s=bs m) (hm:m≠[]) (hq:want m l f=r):
  Calls Tryz.prog 18 #[.pointer (some ⟨E.b,0,none⟩),.string s] w (UU E w o f r):=by
 obtain ⟨x,t,rfl⟩:=hP.cons
 subst hs
 have hlt:=hP.lt
 have hgt:=hP.toks.lt
 unfold want at hq
 by_cases hmk:mark (x :: t)=m
 ·rw [if_pos hmk,bH] at hq
  have hx:=iB hP.good (by rw [hmk];exact hm)
  have HX:=af hx
  have HQ:=af hq
  have HM:=af hmk
  clear hx hq hmk hm
  go_enter Tryz.func18,Tryz.ntmps18
  go_wp2_with (first
   |(go_at_call 37;refine (aH E _ _ _ (hP.alloc _)).mono ?_;rw [HM.out];rintro e w1 ⟨rfl,hb⟩;have hP1:PS E w1 (x :: t) o:=(hP.alloc _).below hb;have hG1:Gr (·=E.b) w w1:=Gr.trans aJ (Gr.of_below hb);have hZ1:ag w1 w.heap.size _ _:=(ag.new _ _ _).below hb (by simp))
   |(go_at_call 39;refine (iK E _ _ _ _ hP1 HX.out).mono ?_;rintro e w2 ⟨rfl,hg2,hP2⟩;have hG2:=hG1.trans hg2;have hZ2:=hZ1.gr hg2 (by omega);obtain ⟨_,z0,z1,z2,z3,zf⟩:=hZ2.jX))
  exact YE Tryz.results18 rfl rfl (by repeat (first|(with_reducible (first|assumption|exact ag.new _ _ _|refine ag.alloc ?_ _|refine ag.drew ?_|refine ag.far ?_ (by first|assumption|(simp;done)|(simp;omega)) _))|apply ag.four)) ⟨aJ,.inr ⟨_,_,rfl,HQ.out,aO⟩⟩
 ·rw [if_neg hmk,rF] at hq
  have hmn:=Cc hmk
  have HQ:=af hq
  clear hq hmk hm
  go_enter Tryz.func18,Tryz.ntmps18
  go_wp2_with (first
   |(go_at_call 37;refine (aH E _ _ _ (hP.alloc _)).mono ?_;rintro e w1 ⟨rfl,hb⟩;have hP1:PS E w1 (x :: t) o:=(hP.alloc _).below hb;have hG1:Gr (·=E.b) w w1:=Gr.trans aJ (Gr.of_below hb))
   |(go_at_call 38;refine (sW E _ _ _ _ hP1).mono ?_;rintro e w2 ⟨rfl,hb2⟩))
  exact And.intro rfl ⟨hG1.trans (Gr.of_below hb2),.inl ⟨_,_,HQ.out.symm,rfl⟩⟩
theorem qc (E:Env) (w:World) (l:List T) (o:Nat) (m:List UInt8) (s:ByteArray) (hP:PS E w l o) (hs:s=bs m) (hm:m≠[]) (hmk:mark l=m):
  Calls Tryz.prog 20 #[.pointer (some ⟨E.b,0,none⟩),.string s] w fun e w'=>e= .returned (.bool true)/\Gr (·=E.b) w w'/\∃x t,l=x :: t/\PS E w' t o:=by
 obtain ⟨x,t,rfl⟩:=hP.cons
 subst hs
 have hll:=hP.len
 have hlr:t.length < E.ts.length:=by have:=hP.Nn.length_le;simp at this;omega
 obtain ⟨j,hj⟩:=aS (E.ts.length - (x :: t).length)
 have hj2:j+1=E.ts.length - t.length:=by simp at hj;omega
 have HX:=af (iB hP.good (by rw [hmk];exact hm))
 have HM:=af hmk
 have HJ:=af hj
 have HJ2:=af hj2
 have j0:(0:Int)<=(j:Int):=by omega
 have j1:(j:Int)<=8193:=by omega
 clear hmk hm hj hj2 hlr hll
 go_enter Tryz.func20,Tryz.ntmps20
 go_wp2_with (go_at_call 37;refine (aH E _ _ _ hP).mono ?_;rw [HM.out];rintro e w1 ⟨rfl,hb⟩;have hP1:PS E w1 (x :: t) o:=hP.below hb;obtain ⟨_,k1,k2,kf⟩:=hP1.cells;rw [HJ.out] at k1)
 go_ret
 exact ⟨rfl,Gr.setCell (S:=(·=E.b)) (p:=⟨E.b,1,none⟩) (Gr.of_below hb) (.inr rfl) _,x,t,rfl,PS.taken hP1 HX.out _ (by rw [<-HJ2.out];simp)⟩
theorem rA (E:Env) (w:World) (l:List T) (o:Nat) (m:List UInt8) (s:ByteArray) (hP:PS E w l o) (hs:s=bs m) (hmk:¬mark l=m):
  Calls Tryz.prog 20 #[.pointer (some ⟨E.b,0,none⟩),.string s] w fun e w'=>e= .returned (.bool false)/\Below w.heap.size w w':=by
 subst hs
 have hmn:=Cc hmk
 clear hmk
 go_enter Tryz.func20,Tryz.ntmps20
 go_wp2_with (go_at_call 37;refine (aH E _ _ _ hP).mono ?_;rintro e w1 ⟨rfl,hb⟩)
 go_ret
 exact ⟨rfl,hb⟩
theorem Ce (E:Env) (w:World) (l:List T) (o:Nat) (k:Int) (f:T->List T->R) (r:R) (hP:PS E w l o) (hk:k≠0) (hq:fu k l f=r):
  Calls Tryz.prog 40 #[.pointer (some ⟨E.b,0,none⟩),.int .i64 k] w (UU E w o f r):=by
 obtain ⟨x,t,rfl⟩:=hP.cons
 have hlt:=hP.lt
 have hgt:=hP.toks.lt
 unfold fu at hq
 rw [yx] at hq
 by_cases hkd:x.1.k=k
 ·rw [if_pos hkd,bH] at hq
  have HX:=af (show x.1.k≠0 by rw [hkd];exact hk)
  have HQ:=af hq
  have hne:(x.1.k != k)=false:=by rw [hkd];simp
  clear hq hkd hk
  go_enter Tryz.func40,Tryz.ntmps40
  go_wp2_with (first
   |(go_at_call 21;refine (iO E _ _ _ _ (hP.alloc _)).mono ?_;rintro e w1 ⟨rfl,hb⟩;have hP1:PS E w1 (x :: t) o:=(hP.alloc _).below hb;have hG1:Gr (·=E.b) w w1:=Gr.trans aJ (Gr.of_below hb);have hZ1:ag w1 w.heap.size _ _:=(ag.new _ _ _).below hb (by simp))
   |(go_at_call 39;refine (iK E _ _ _ _ hP1 HX.out).mono ?_;rintro e w2 ⟨rfl,hg2,hP2⟩;have hG2:=hG1.trans hg2;have hZ2:=hZ1.gr hg2 (by omega);obtain ⟨_,z0,z1,z2,z3,zf⟩:=hZ2.jX))
  exact YE Tryz.results40 rfl rfl (by repeat (first|(with_reducible (first|assumption|exact ag.new _ _ _|refine ag.alloc ?_ _|refine ag.drew ?_|refine ag.far ?_ (by first|assumption|(simp;done)|(simp;omega)) _))|apply ag.four)) ⟨aJ,.inr ⟨_,_,rfl,HQ.out,aO⟩⟩
 ·rw [if_neg hkd,rF] at hq
  have hne:(x.1.k != k)=true:=by simpa using hkd
  have HQ:=af hq
  clear hq hkd hk
  go_enter Tryz.func40,Tryz.ntmps40
  go_wp2_with (first
   |(go_at_call 21;refine (iO E _ _ _ _ (hP.alloc _)).mono ?_;rintro e w1 ⟨rfl,hb⟩;have hP1:PS E w1 (x :: t) o:=(hP.alloc _).below hb;have hG1:Gr (·=E.b) w w1:=Gr.trans aJ (Gr.of_below hb))
   |(go_at_call 38;refine (sW E _ _ _ _ hP1).mono ?_;rintro e w2 ⟨rfl,hb2⟩))
  exact And.intro rfl ⟨hG1.trans (Gr.of_below hb2),.inl ⟨_,_,HQ.out.symm,rfl⟩⟩
theorem jd (E:Env) (w:World) (l:List T) (o:Nat) (f:T->List T->R) (r:R) (hP:PS E w l o) (hq:fu 1 l f=r):
  Calls Tryz.prog 19 #[.pointer (some ⟨E.b,0,none⟩)] w (UU E w o f r):=by
 have hlt:=hP.lt
 have hgt:=hP.toks.lt
 have HQ:=af hq
 clear hq
 go_enter Tryz.func19,Tryz.ntmps19
 go_wp2_with (go_at_call 40;refine (Ce E _ _ _ 1 _ _ (hP.alloc _) (by simp) HQ.out).mono ?_;rintro e w1 ⟨hg1,⟨a,k,hr,rfl⟩|⟨x,t,rfl,hq1,hP1⟩⟩;exact And.intro rfl ⟨Gr.trans aJ hg1,.inl ⟨_,_,hr,rfl⟩⟩;have hG1:Gr (·=E.b) w w1:=Gr.trans aJ hg1;have hZ1:ag w1 w.heap.size _ _:=(ag.new _ _ _).gr hg1 (by omega);have fG:=af hq1;clear hq1;obtain ⟨_,z0,z1,z2,z3,zf⟩:=hZ1.jX)
 exact YE Tryz.results19 rfl rfl (by repeat (first|(with_reducible (first|assumption|exact ag.new _ _ _|refine ag.alloc ?_ _|refine ag.drew ?_|refine ag.far ?_ (by first|assumption|(simp;done)|(simp;omega)) _))|apply ag.four)) ⟨aJ,.inr ⟨_,_,rfl,fG.out,aO⟩⟩
theorem kN (E:Env) (w:World) (l:List T) (o:Nat) (m:List UInt8) (s:ByteArray) (f:T->List T->R) (r:R) (hP:PS E w l o) (hs:s=bs m) (hm:m≠[]) (hq:enter m l o f=r):
  Calls Tryz.prog 65 #[.pointer (some ⟨E.b,0,none⟩),.string s] w (UU E w (o+1) f r):=by
 subst hs
 have hlt:=hP.lt
 have hgt:=hP.toks.lt
 have hd:=hP.deep
 have o0:(0:Int)<=(o:Int):=by omega
 have o1:(o:Int)<=40:=by omega
 unfold enter at hq
 by_cases Dn:o=40
 ·subst Dn
  simp only [if_true] at hq
  have HQ:=af hq
  clear hq
  go_enter Tryz.func65,Tryz.ntmps65
  go_wp2_with (go_at_call 18;refine (bT E _ _ _ m _ _ _ (hP.alloc _) rfl hm HQ.out).mono ?_;rintro e w1 ⟨hg1,⟨a,k,hr,rfl⟩|⟨x,t,rfl,hq1,hP1⟩⟩;exact And.intro rfl ⟨Gr.trans aJ hg1,.inl ⟨_,_,hr,rfl⟩⟩;have hG1:Gr (·=E.b) w w1:=Gr.trans aJ hg1;have fG:=af hq1;clear hq1;obtain ⟨_,_,k2,_⟩:=hP1.cells;have zl:=hP1.lt)
  refine And.intro rfl ?_
  exact ⟨aJ,.inl ⟨_,_,fG.out.symm,rfl⟩⟩
 ·simp only [if_neg Dn] at hq
  have hne:((o:Int) == 40)=false:=by simp;omega
  have HQ:=af hq
  have HO:=af Dn
  clear hq Dn
  go_enter Tryz.func65,Tryz.ntmps65
  go_wp2_with (go_at_call 18;refine (bT E _ _ _ m _ _ _ (hP.alloc _) rfl hm HQ.out).mono ?_;rintro e w1 ⟨hg1,⟨a,k,hr,rfl⟩|⟨x,t,rfl,hq1,hP1⟩⟩;exact And.intro rfl ⟨Gr.trans aJ hg1,.inl ⟨_,_,hr,rfl⟩⟩;have hG1:Gr (·=E.b) w w1:=Gr.trans aJ hg1;have fG:=af hq1;clear hq1;obtain ⟨_,_,k2,kf⟩:=hP1.cells;have bl:=hP1.lt;have hZ1:ag w1 w.heap.size _ _:=(ag.new _ _ _).gr hg1 (by omega);obtain ⟨zl,z0,z1,z2,z3,zf⟩:=hZ1.jX;have zb:¬w.heap.size=E.b:=(by omega))
  have hPt:=PS.opened hP1 (o':=o+1) (by have:=HO.out;omega) (.int .i64 ((o:Int)+1)) rfl
  exact YE Tryz.results65 rfl rfl (by repeat (first|(with_reducible (first|assumption|exact ag.new _ _ _|refine ag.alloc ?_ _|refine ag.drew ?_|refine ag.far ?_ (by first|assumption|(simp;done)|(simp;omega)) _))|apply ag.four)) ⟨aJ,.inr ⟨_,_,rfl,fG.out,aO⟩⟩
theorem gY (E:Env) (w:World) (l:List T) (o:Nat) (m:List UInt8) (s:ByteArray) (f:T->List T->R) (r:R) (hP:PS E w l (o+1)) (hs:s=bs m) (hm:m≠[]) (hq:want m l f=r):
  Calls Tryz.prog 66 #[.pointer (some ⟨E.b,0,none⟩),.string s] w fun e w'=>Gr (·=E.b) w w'/\((∃a k,r= .bad a k/\e=(.panicked [{ v:=.iface 38 (.agg #[.int .i64 a,.int .i64 k]),recovered:=false }]))\/∃x l,e= .returned (.tuple #[])/\f x l=r/\PS E w' l o):=by
 subst hs
 have hd:=hP.deep
 have HQ:=af hq
 clear hq
 go_enter Tryz.func66,Tryz.ntmps66
 go_wp2_with (go_at_call 18;refine (bT E _ _ _ m _ _ _ hP rfl hm HQ.out).mono ?_;rintro e w1 ⟨hg1,⟨a,k,hr,rfl⟩|⟨x,t,rfl,hq1,hP1⟩⟩;exact And.intro rfl ⟨hg1,.inl ⟨_,_,hr,rfl⟩⟩;have fG:=af hq1;clear hq1;obtain ⟨_,_,k2,kf⟩:=hP1.cells;have k2:w1.cell? ⟨E.b,2,none⟩=some (.int .i64 ((o:Int)+1)):=k2)
 go_end0
 exact ⟨aJ,.inr ⟨x,t,rfl,fG.out,PS.opened hP1 (by omega) _ (by simp)⟩⟩
end
def cK:Nat:=400000
def CZ (E:Env) (w:World) (lo o:Nat) (f:Tr->List T->R) (r:R) (e:Ending) (w':World):Prop:=
 Gr (·=E.b) w w'/\((∃a k,r= .bad a k/\e=(.panicked [{ v:=.iface 38 (.agg #[.int .i64 a,.int .i64 k]),recovered:=false }]))\/∃(k op n:Int) (p t:List UInt8) (a:Nat) (ks:List Tr) (A:Option Addr) (c:Nat) (l:List T),
  e= .returned (.agg #[.int .i64 k,.int .i64 op,.int .i64 n,.string (bs p),.string (bs t),.int .i64 a,.slice A ks.length c])/\f (.mk k op n p t a ks) l=r/\aI w' lo (.slice A ks.length c) ks/\ks.length<=3*cK/\PS E w' l o)
def UW (E:Env) (w:World) (o:Nat) (f:Tr->List T->R) (r:R) (e:Ending) (w':World):Prop:=
 Gr (·=E.b) w w'/\((∃a k,r= .bad a k/\e=(.panicked [{ v:=.iface 38 (.agg #[.int .i64 a,.int .i64 k]),recovered:=false }]))\/∃(ks:List Tr) (A:Option Addr) (c:Nat) (l:List T),
  e= .returned (.slice A ks.length c)/\f (NJ ks) l=r/\aI w' w.heap.size (.slice A ks.length c) ks/\ks.length<=cK/\PS E w' l o)
theorem Cf:(Tryz.prog.info? 24).map (fun i=>(i.zero,i.size,i.bytes))=some (some (.agg #[.int .i64 0,.int .i64 0,.int .i64 0,.string ⟨#[]⟩,.string ⟨#[]⟩,.int .i64 0,.slice none 0 0]),7,88):=by kernel_rfl
theorem aY {P:Program} {o:Oper} {a:Act} {w w':World} {K:Act->World->Prop} {Q:Exit->Act->World->Prop} {v:Value} (h:(execOp a.eval o).run P w= .ok (.value v) w') (hk:K (a.put o.dst v) w'):o.wp P a w K Q:=by
 unfold Oper.wp
 rw [h]
 exact hk
theorem fP {P:Program} {o:Oper} {a:Act} {w:World} {K:Act->World->Prop} {Q:Exit->Act->World->Prop} {f:FuncId} {args:Array Value} (h:(execOp a.eval o).run P w= .ok (.enter f args) w)
  (hk:Calls P f args w fun
   | .returned v,w'=>K (a.put o.dst v) w'
   | .panicked c,w'=>Q (.panic c) a w'
   | .outgrown,_=>LetsOut Q):o.wp P a w K Q:=by
 unfold Oper.wp
 rw [h]
 exact hk
section
variable (ρ : Operand -> Value) (w : World) (dst : Option Tmp) (x : Operand) (ty : TypeId) (pos : String) (after : Array Edge)
theorem qd (v:Value) (hx:ρ x=v):(execOp ρ { dst:=dst,op:=.move x,type:=ty,pos:=pos,after:=after,guard:=none }).run Tryz.prog w= .ok (.value v) w:=by
 unfold execOp;simp only [hx];go_simp
theorem AU (a:Addr) (hx:ρ x= .pointer (some a)):(execOp ρ { dst:=dst,op:=.nilCheck x,type:=ty,pos:=pos,after:=after,guard:=none }).run Tryz.prog w= .ok (.value (.pointer (some a))) w:=by
 unfold execOp;simp only [hx];go_simp
theorem sZ (g:Nat) (hx:ρ x= .pointer (some ⟨g,0,none⟩)):(execOp ρ { dst:=dst,op:=.fieldAddr 24 x 6,type:=ty,pos:=pos,after:=after,guard:=none }).run Tryz.prog w= .ok (.value (.pointer (some ⟨g,6,none⟩))) w:=by
 unfold execOp;simp only [hx];go_simp
theorem xy (g:Nat) (hx:ρ x= .pointer (some ⟨g,0,none⟩)):(execOp ρ { dst:=dst,op:=.fieldAddr 43 x 0,type:=ty,pos:=pos,after:=after,guard:=none }).run Tryz.prog w= .ok (.value (.pointer (some ⟨g,0,none⟩))) w:=by
 unfold execOp;simp only [hx];go_simp
theorem vF (g i:Nat) (v:Value) (hx:ρ x= .pointer (some ⟨g,i,none⟩)) (hc:w.cell? ⟨g,i,none⟩=some v):(execOp ρ { dst:=dst,op:=.load 22 x,type:=ty,pos:=pos,after:=after,guard:=none }).run Tryz.prog w= .ok (.value v) w:=by
 unfold execOp;simp only [hx];go_simp
theorem Ih (v0 v1 v2 v3 v4 v5:Value) (A:Option Addr) (n c:Nat) (hx:ρ x= .agg #[v0,v1,v2,v3,v4,v5,.slice A n c]):(execOp ρ { dst:=dst,op:=.buildSlice 22 1 #[(0,x)],type:=ty,pos:=pos,after:=after,guard:=none }).run Tryz.prog w= .ok (.value (.slice (some ⟨w.heap.size,0,none⟩) 1 1)) (w.alloc (.cells #[v0,v1,v2,v3,v4,v5,.slice A n c] 24)):=by
 unfold execOp;simp only [List.map_toArray,List.map_cons,List.map_nil,hx];go_simp
theorem tu {Q:Exit->Act->World->Prop} {K:Act->World->Prop} (a:Act) (y:Operand) (g i:Nat) (v:Value) (A:Option Addr) (m c:Nat) (hx:a.eval x= .pointer (some ⟨g,i,none⟩)) (hy:a.eval y= .slice A m c) (hc:w.cell? ⟨g,i,none⟩=some v) (hf:w.frozen? ⟨g,i,none⟩=false) (hk:K (a.put none undef) (w.setCell ⟨g,i,none⟩ (.slice A m c))):({ dst:=none,op:=.store 22 x y,type:=ty,pos:=pos,after:=after,guard:=none }:Oper).wp Tryz.prog a w K Q:=by
 have:(execOp a.eval { dst:=none,op:=.store 22 x y,type:=ty,pos:=pos,after:=after,guard:=none }).run Tryz.prog w= .ok .skip (w.setCell ⟨g,i,none⟩ (.slice A m c)):=by
  unfold execOp;simp only [hx,hy];go_simp
 unfold Oper.wp
 rw [this]
 exact hk
theorem ade (k:Nat) (a:Addr) (hx:ρ x= .pointer (some a)):(execOp ρ { dst:=dst,op:=.makeFunc (Fn.func k) #[x] #[],type:=ty,pos:=pos,after:=after,guard:=none }).run Tryz.prog w= .ok (.value (.func (Fn.func k) #[.pointer (some a)] #[])) w:=by
 have h:(#[x].map ρ)=#[.pointer (some a)]:=by simp [hx]
 have h2:(#[].map ρ)=#[]:=by simp
 unfold execOp;simp only [h,h2];rfl
theorem x_len (A:Option Addr) (n c:Nat) (t:TypeId) (hx:ρ x= .slice A n c):(execOp ρ { dst:=dst,op:=.call { callee:=.builtin .len,args:=#[x],argTypes:=#[22] },type:=ty,pos:=pos,after:=after,guard:=none }).run Tryz.prog w= .ok (.value (.int .i64 n)) w:=by
 unfold execOp;go_simp
theorem Ii (g n c i:Nat) (y:Operand) (hx:ρ x= .slice (some ⟨g,0,none⟩) n c) (hy:ρ y= .int .i64 i) (hi:i < n):(execOp ρ { dst:=dst,op:=.indexAddr 22 x y,type:=ty,pos:=pos,after:=after,guard:=none }).run Tryz.prog w= .ok (.value (.pointer (some ⟨g,i*7,none⟩))) w:=by
 have h0:(0:Int)<=(i:Int):=by omega
 have h1:(i:Int) < (n:Int):=by omega
 unfold execOp;simp only [hx,hy];go_simp
end
def dep (ops:Array Oper) (i j:Nat):Bool:=match ops[i]? with
 |some o=>o.after.any fun e=>e.on == j && Region.binds .any e
 |none=>false
theorem vG {ops:Array Oper} {i j:Nat} {o:Oper} (h:dep ops i j=true) (ho:ops[i]? =some o):∃e∈o.after,e.on=j/\Region.binds .any e=true:=by
 unfold dep at h
 rw [ho] at h
 simp only at h
 rw [Array.any_eq_true] at h
 obtain ⟨k,hk,he⟩:=h
 simp at he
 exact ⟨o.after[k],Array.getElem_mem hk,he.1,he.2⟩
def zn (ops:Array Oper) (t:Nat):Bool:=ops.all fun o=>o.dst != some t
theorem fD {ops:Array Oper} {t:Nat} (h:zn ops t=true):∀o'∈ops,o'.dst≠some t:=by
 intro o ho
 have:=(Array.all_eq_true_iff_forall_mem.1 h) o ho
 simpa using this
def aN (w:World) (lo h:Nat) (v:Value) (ks:List Tr):Prop:=
 v.ownBlock≠some h/\∃xs,w.ownsRow lo 24 7 v ks.length xs/\bO w (fun g=>lo<=g/\v.ownBlock≠some g/\g≠h) ks xs
section
variable {w w' : World} {lo h : Nat} {v : Value} {ks : List Tr}
theorem aN.kid (k:aN w lo h v ks):aI w lo v ks:=by
 obtain ⟨_,xs,h1,h2⟩:=k
 exact ⟨xs,h1,bO.keep (fun _ _ _=>rfl) (Nat.le_refl _) (fun g _ hg=>⟨hg.1,hg.2.1⟩) _ _ h2⟩
theorem aI.x (k:aI w lo v ks) (hh:h < lo):aN w lo h v ks:=by
 refine ⟨fun e=>?_,?_⟩
 ·have:=(k.own e).1;omega
 ·obtain ⟨xs,h1,h2⟩:=k
  exact ⟨xs,h1,bO.keep (fun _ _ _=>rfl) (Nat.le_refl _) (fun g _ hg=>⟨hg.1,hg.2,by have:=hg.1;omega⟩) _ _ h2⟩
theorem aI.fresh (k:aI w lo v ks) (hh:h=w.heap.size) (o:Obj):aN (w.alloc o) lo h v ks:=by
 refine ⟨fun e=>?_,?_⟩
 ·have:=(k.own e).2;omega
 ·obtain ⟨xs,h1,h2⟩:=k
  exact ⟨xs,h1.alloc o,bO.keep (fun g _ hg=>Below.heap_alloc w o g hg) (by simp) (fun g hlt hg=>⟨hg.1,hg.2,by omega⟩) _ _ h2⟩
theorem aN.own (k:aN w lo h v ks) {g:Nat} (hg:v.ownBlock=some g):lo<=g/\g < w.heap.size/\g≠h:=by
 obtain ⟨h1,h2⟩:=k.kid.own hg
 exact ⟨h1,h2,fun e=>k.1 (by rw [hg,e])⟩
theorem aN.gr {S:Nat->Prop} (k:aN w lo h v ks) (hg:Gr S w w') (hS:∀g,lo<=g->g≠h->g < w.heap.size->¬S g):aN w' lo h v ks:=by
 have ho:=fun g (e:v.ownBlock=some g)=>k.own e
 obtain ⟨h0,xs,h1,h2⟩:=k
 exact ⟨h0,xs,AR h1 fun g hv hlt=>hg.block g hlt (hS g (ho g hv).1 (ho g hv).2.2 hlt),h2.gr hg (fun g h1 h2=>hS g h1.1 h1.2.2 h2) (fun g _ h=>h)⟩
theorem aN.alloc (k:aN w lo h v ks) (o:Obj):aN (w.alloc o) lo h v ks:=k.gr ((Gr.refl w (S:=fun _=>False)).alloc o) (fun _ _ _ _ h=>h)
theorem aN.drew (k:aN w lo h v ks):aN w.drew lo h v ks:=k.gr ((Gr.refl w (S:=fun _=>False)).drew) (fun _ _ _ _ h=>h)
theorem aN.setCell (k:aN w lo h v ks) {p:Addr} (hp:p.block < lo\/p.block=h) (u:Value):aN (w.setCell p u) lo h v ks:=
 k.gr ((Gr.refl w (S:=fun q=>q=p.block)).setCell (.inr rfl) u) (fun g h1 h2 _ h3=>by rcases hp with hp|hp <;> omega)
theorem aN.call {b:Nat} (k:aN w lo h v ks) (hg:Gr (·=b) w w') (hb:b < lo):aN w' lo h v ks:=k.gr hg fun g h1 _ _ h2=>by have:g=b:=h2;omega
theorem aN.aC (k:aN w lo h v ks) (hb:Below w.heap.size w w'):aN w' lo h v ks:=k.gr (Gr.of_below hb (S:=fun _=>False)) (fun _ _ _ _ h=>h)
theorem aN.mono {lo':Nat} (k:aN w lo h v ks) (hl:lo'<=lo):aN w lo' h v ks:=by
 obtain ⟨h0,xs,h1,h2⟩:=k
 exact ⟨h0,xs,Eg h1 hl,bO.keep (fun _ _ _=>rfl) (Nat.le_refl _) (fun g _ hg=>⟨Nat.le_trans hl hg.1,hg.2⟩) _ _ h2⟩
theorem aN.app {us:List Tr} {v':Value} {xs news:List Value} (h0:v.ownBlock≠some h) (h1:w.ownsRow lo 24 7 v ks.length xs) (h2:bO w (fun g=>lo<=g/\v.ownBlock≠some g/\g≠h) ks xs) (h3:bO w (fun g=>lo<=g/\v.ownBlock≠some g/\g≠h) us news)
  (h4:w'.ownsRow lo 24 7 v' (ks.length+us.length) (xs ++ news)) (h5:w.grownBy w' v.ownBlock) (h6:v'.ownBlock=v.ownBlock\/v'.ownBlock=some w.heap.size) (hh:h < w.heap.size):aN w' lo h v' (ks ++ us):=by
 refine ⟨?_,xs ++ news,by rw [List.length_append];exact h4,bO.keep (fun g hg hlt=>h5.block g hlt (Ne.symm hg.2.1)) h5.size (fun g hlt hg=>⟨hg.1,?_,hg.2.2⟩) _ _ (bO.append h2 h3)⟩
 ·rcases h6 with h6|h6
  ·rw [h6];exact h0
  ·rw [h6];simp only [ne_eq,Option.some.injEq];omega
 ·rcases h6 with h6|h6
  ·rw [h6];exact hg.2.1
  ·rw [h6];simp only [ne_eq,Option.some.injEq];omega
end
def ah (w:World) (lo:Nat) (X:Nat->Prop) (v:Value) (ks:List Tr):Prop:=
 (∀q,v.ownBlock=some q->¬X q)/\∃xs,w.ownsRow lo 24 7 v ks.length xs/\bO w (fun g=>lo<=g/\v.ownBlock≠some g/\¬X g) ks xs
section
variable {w w' : World} {lo : Nat} {X : Nat -> Prop} {v : Value} {ks : List Tr}
theorem aN.p {h:Nat} (k:aN w lo h v ks):ah w lo (·=h) v ks:=⟨fun q e hq=>k.1 (by rw [e];exact congrArg some hq),k.2⟩
theorem ah.x {h:Nat} (k:ah w lo X v ks) (hh:X h):aN w lo h v ks:=by
 obtain ⟨h0,xs,h1,h2⟩:=k
 exact ⟨fun e=>h0 h e hh,xs,h1,bO.keep (fun _ _ _=>rfl) (Nat.le_refl _) (fun g _ hg=>⟨hg.1,hg.2.1,fun e=>hg.2.2 (e▸hh)⟩) _ _ h2⟩
theorem ah.kid (k:ah w lo X v ks):aI w lo v ks:=by
 obtain ⟨_,xs,h1,h2⟩:=k
 exact ⟨xs,h1,bO.keep (fun _ _ _=>rfl) (Nat.le_refl _) (fun g _ hg=>⟨hg.1,hg.2.1⟩) _ _ h2⟩
theorem aI.p (k:aI w lo v ks) (hX:∀q,X q->q < lo\/w.heap.size<=q):ah w lo X v ks:=by
 refine ⟨fun q e hq=>?_,?_⟩
 ·have:=k.own e
  have:=hX q hq
  omega
 ·obtain ⟨xs,h1,h2⟩:=k
  exact ⟨xs,h1,bO.keep (fun _ _ _=>rfl) (Nat.le_refl _) (fun g hlt hg=>⟨hg.1,hg.2,fun hq=>by have:=hX g hq;have:=hg.1;omega⟩) _ _ h2⟩
theorem ah.sub {Y:Nat->Prop} (k:ah w lo X v ks) (hY:∀q,Y q->q < w.heap.size->X q):ah w lo Y v ks:=by
 have ho:=fun g (e:v.ownBlock=some g)=>(k.kid).own e
 obtain ⟨h0,xs,h1,h2⟩:=k
 exact ⟨fun q e hq=>h0 q e (hY q hq (ho q e).2),xs,h1,bO.keep (fun _ _ _=>rfl) (Nat.le_refl _) (fun g hlt hg=>⟨hg.1,hg.2.1,fun hq=>hg.2.2 (hY g hq hlt)⟩) _ _ h2⟩
theorem ah.or {z:Nat} (k:ah w lo X v ks) (hz:w.heap.size<=z):ah w lo (fun q=>X q\/q=z) v ks:=by
 have ho:=fun g (e:v.ownBlock=some g)=>(k.kid).own e
 obtain ⟨h0,xs,h1,h2⟩:=k
 exact ⟨fun q e hq=>hq.elim (h0 q e) (fun h=>by have:=(ho q e).2;omega),xs,h1,bO.keep (fun _ _ _=>rfl) (Nat.le_refl _) (fun g hlt hg=>⟨hg.1,hg.2.1,fun hq=>hq.elim hg.2.2 (fun h=>by omega)⟩) _ _ h2⟩
theorem ah.own (k:ah w lo X v ks) {g:Nat} (hg:v.ownBlock=some g):lo<=g/\g < w.heap.size/\¬X g:=by
 obtain ⟨h1,h2⟩:=k.kid.own hg
 exact ⟨h1,h2,k.1 g hg⟩
theorem ah.gr {S:Nat->Prop} (k:ah w lo X v ks) (hg:Gr S w w') (hS:∀g,lo<=g->¬X g->g < w.heap.size->¬S g):ah w' lo X v ks:=by
 have ho:=fun g (e:v.ownBlock=some g)=>k.own e
 obtain ⟨h0,xs,h1,h2⟩:=k
 exact ⟨h0,xs,AR h1 fun g hv hlt=>hg.block g hlt (hS g (ho g hv).1 (ho g hv).2.2 hlt),h2.gr hg (fun g h1 h2=>hS g h1.1 h1.2.2 h2) (fun g _ h=>h)⟩
theorem ah.alloc (k:ah w lo X v ks) (o:Obj):ah (w.alloc o) lo X v ks:=k.gr ((Gr.refl w (S:=fun _=>False)).alloc o) (fun _ _ _ _ h=>h)
theorem ah.drew (k:ah w lo X v ks):ah w.drew lo X v ks:=k.gr ((Gr.refl w (S:=fun _=>False)).drew) (fun _ _ _ _ h=>h)
theorem ah.setCell (k:ah w lo X v ks) {p:Addr} (hp:p.block < lo\/X p.block) (u:Value):ah (w.setCell p u) lo X v ks:=
 k.gr (Gr.setCell (S:=fun q=>q=p.block) (p:=p) (Gr.refl w) (.inr rfl) u) (fun g h1 h2 _ h3=>by
  have h3:g=p.block:=h3
  rcases hp with hp|hp
  ·omega
  ·exact h2 (h3▸hp))
theorem ah.call {b:Nat} (k:ah w lo X v ks) (hg:Gr (·=b) w w') (hb:b < lo):ah w' lo X v ks:=k.gr hg fun g h1 _ _ h2=>by have:g=b:=h2;omega
theorem ah.aC (k:ah w lo X v ks) (hb:Below w.heap.size w w'):ah w' lo X v ks:=k.gr (Gr.of_below hb (S:=fun _=>False)) (fun _ _ _ _ h=>h)
theorem ah.app {us:List Tr} {v':Value} {xs news:List Value} (h0:∀q,v.ownBlock=some q->¬X q) (h1:w.ownsRow lo 24 7 v ks.length xs) (h2:bO w (fun g=>lo<=g/\v.ownBlock≠some g/\¬X g) ks xs) (h3:bO w (fun g=>lo<=g/\v.ownBlock≠some g/\¬X g) us news)
  (h4:w'.ownsRow lo 24 7 v' (ks.length+us.length) (xs ++ news)) (h5:w.grownBy w' v.ownBlock) (h6:v'.ownBlock=v.ownBlock\/v'.ownBlock=some w.heap.size) (hX:∀q,X q->q < w.heap.size):ah w' lo X v' (ks ++ us):=by
 refine ⟨?_,xs ++ news,by rw [List.length_append];exact h4,bO.keep (fun g hg hlt=>h5.block g hlt (Ne.symm hg.2.1)) h5.size (fun g hlt hg=>⟨hg.1,?_,hg.2.2⟩) _ _ (bO.append h2 h3)⟩
 ·intro q e hq
  rcases h6 with h6|h6
  ·rw [h6] at e;exact h0 q e hq
  ·rw [h6] at e
   injection e with e
   have:=hX q hq
   omega
 ·rcases h6 with h6|h6
  ·rw [h6];exact hg.2.1
  ·rw [h6];simp only [ne_eq,Option.some.injEq];omega
end
def WX (b:Nat) (v:Value) (k:Nat):Prop:=k=b\/v.ownBlock=some k
def Wr (b lo h:Nat) (k:Nat):Prop:=k=b\/(lo<=k/\k≠h)
theorem UX {x:R} {g:Tr->List T->R} {r:R} (h:bnd x g=r) (hr:r≠.out):x≠.out:=by rintro rfl;exact hr (by rw [<-h];rfl)
def Ij (b:Nat) (w:World) (B:List PanicEntry->Prop) (D:Tr->World->Prop) (e:Ending) (w':World):Prop:=
 Gr (·=b) w w'/\((∃c,B c/\e= .panicked c)\/∃(k op n:Int) (p t:List UInt8) (a:Nat) (ks:List Tr) (A:Option Addr) (c:Nat),
  e= .returned (.agg #[.int .i64 k,.int .i64 op,.int .i64 n,.string (bs p),.string (bs t),.int .i64 a,.slice A ks.length c])/\aI w' w.heap.size (.slice A ks.length c) ks/\D (.mk k op n p t a ks) w')
def Calm (lo:Nat) (D:World->Prop):Prop:=∀w w',D w->Gr (fun k=>lo<=k) w w'->D w'
theorem Calm.alloc {lo:Nat} {D:World->Prop} (h:Calm lo D) {w:World} (hd:D w) (o:Obj):D (w.alloc o):=h _ _ hd ((Gr.refl w).alloc o)
theorem Calm.drew {lo:Nat} {D:World->Prop} (h:Calm lo D) {w:World} (hd:D w):D w.drew:=h _ _ hd ((Gr.refl w).drew)
structure JA (b:Nat) (w0:World) (h:Nat) (X:Nat->Prop) (lo:Nat) (vp:Value) (v:Value) (dx:List Tr) (D:Tr->World->Prop) (L:Nat->Bool) (vals:Nat->Value) (w:World):Prop where
 v0:L 0=true->vals 0= .pointer (some ⟨h,6,none⟩)
 v1:L 1=true->vals 1=v
 v2:L 2=true->vals 2=vp
 d4:L 4=true->L 3=true
 d5:L 5=true->L 4=true
 gr:Gr (WX b v) w0 w
 q0:L 3=false->w=w0.drew
 q1:L 5=false->Gr (·=b) w0 w
 p1:L 3=true->L 4=false->∃(k op n:Int) (p t:List UInt8) (a:Nat) (ks:List Tr) (A:Option Addr) (c:Nat),vals 3= .agg #[.int .i64 k,.int .i64 op,.int .i64 n,.string (bs p),.string (bs t),.int .i64 a,.slice A ks.length c]/\aI w w0.heap.size (.slice A ks.length c) ks/\D (.mk k op n p t a ks) w
 p2:L 4=true->L 5=false->∃g t,vals 4= .slice (some ⟨g,0,none⟩) 1 1/\aI w w0.heap.size (.slice (some ⟨g,0,none⟩) 1 1) [t]/\D t w
 p3:L 5=true->∃A c t,vals 5= .slice A (dx.length+1) c/\(∀q,(Value.slice A (dx.length+1) c).ownBlock=some q->v.ownBlock=some q\/w0.heap.size<=q)/\aN w lo h (.slice A (dx.length+1) c) (dx ++ [t])/\ah w lo X (.slice A (dx.length+1) c) (dx ++ [t])/\D t w
theorem six {i:Nat} (h:i < 6):i=0\/i=1\/i=2\/i=3\/i=4\/i=5:=by omega
theorem Ew {w:World} {b b' n size:Nat} {e:TypeId} {v:Value} {xs ys:List Value} (h1:w.ownsRow b e size v n xs) (h2:w.ownsRow b' e size v n ys):xs=ys:=by
 have l1:=h1.1
 have l2:=h2.1
 by_cases hn:0 < n
 ·obtain ⟨g,cap,hv,_,_⟩:=h1.form hn
  subst hv
  apply List.ext_getElem?
  intro j
  cases hx:xs[j]? with
  |none=>
   have:=List.getElem?_eq_none_iff.1 hx
   exact (List.getElem?_eq_none_iff.2 (by omega)).symm
  |some u=>
   have hj:=(List.getElem?_eq_some_iff.1 hx).1
   have hy:ys[j]? =some ys[j]:=List.getElem?_eq_getElem (by omega)
   have c1:=h1.cells (g:=g) rfl j u hx
   have c2:=h2.cells (g:=g) rfl j _ hy
   rw [c1] at c2
   injection c2 with c2
   rw [hy,<-c2]
 ·obtain rfl:n=0:=by omega
  rw [Nat.zero_mul] at l1 l2
  rw [List.eq_nil_of_length_eq_zero l1,List.eq_nil_of_length_eq_zero l2]
theorem AV {w:World} {lo N h:Nat} {X:Nat->Prop} {v:Value} {dx:List Tr} {g:Nat} {t:Tr} (hK:aN w lo h v dx) (yz:ah w lo X v dx) (YF:∀q,X q->q < N) (hzw:∀q,X q->q < w.heap.size) (hv:∀q,v.ownBlock=some q->q < N) (hN:aI w N (.slice (some ⟨g,0,none⟩) 1 1) [t]) (hlo:lo<=N) (hhN:h < N) (hlen:dx.length<=3*cK) (hsz:lo<=w.heap.size) (hhw:h < w.heap.size)
  {o:Oper} {a:Act} {K:Act->World->Prop} {Q:Exit->Act->World->Prop} (s x:Operand)
  (ho:o.op= .call { callee:=.builtin .append,args:=#[s,x],argTypes:=#[22,22] }) (hs:a.eval s=v) (hx:a.eval x= .slice (some ⟨g,0,none⟩) 1 1)
  (hk:∀A c w',(∀q,(Value.slice A (dx.length+1) c).ownBlock=some q->v.ownBlock=some q\/w.heap.size<=q)->aN w' lo h (.slice A (dx.length+1) c) (dx ++ [t])->ah w' lo X (.slice A (dx.length+1) c) (dx ++ [t])->Gr (fun k=>v.ownBlock=some k) w w'->K (a.put o.dst (.slice A (dx.length+1) c)) w'):o.wp Tryz.prog a w K Q:=by
 obtain ⟨i0,hi0,hz0,hz1,hz2⟩:=info_parts Cf
 obtain ⟨h0,xs,h1,h2⟩:=hK
 obtain ⟨h0z,xsz,h1z,h2z⟩:=yz
 have exz:xs=xsz:=Ew h1 h1z
 subst exz
 obtain ⟨ys,k1,k2⟩:=hN
 have hrd:=Reads.Ny k1
 have h3:bO w (fun q=>lo<=q/\v.ownBlock≠some q/\q≠h) [t] ys:=bO.keep (fun _ _ _=>rfl) (Nat.le_refl _) (fun q _ hq=>⟨by omega,(fun e=>by have:=hv q e;omega),by omega⟩) _ _ k2
 unfold cK at hlen
 refine ry w s x _ ho lo 24 i0 _ 7 88 Tryz.underlying22 hi0 hz0 hz1 hz2 rfl (by omega) v dx.length xs hs h1 _ _ 1 1 ys hx hrd k2.one (by simp only [maxLen];omega) (by omega) hsz ?_
 intro v' w' g1 g2 g3
 obtain ⟨A,c,rfl⟩:=kM g1
 have h3z:bO w (fun q=>lo<=q/\v.ownBlock≠some q/\¬X q) [t] ys:=bO.keep (fun _ _ _=>rfl) (Nat.le_refl _) (fun q _ hq=>⟨by omega,(fun e=>by have:=hv q e;omega),fun e=>by have:=YF q e;omega⟩) _ _ k2
 refine hk A c w' (fun q hq=>?_) ?_ (ah.app (us:=[t]) h0z h1 h2z h3z g1 g2 g3 hzw) (Gr.Ev g2 fun q hq _=>hq)
 ·rcases g3 with g3|g3
  ·exact .inl (g3▸hq)
  ·rw [g3] at hq
   injection hq with hq
   exact .inr (by omega)
 have:=aN.app (us:=[t]) h0 h1 h2 h3 g1 g2 g3 hhw
 exact this
theorem dD {id:Nat} {a0:Act} {w0:World} {Q:Exit->Act->World->Prop} {ops:Array Oper} {d0 d1 d2 d3 d4 d5 d6 tx tp:Nat} {c3:Call} {y0 y1 y2 y3 y4 y5 y6 y7:TypeId} {p0 p1 p2 p3 p4 p5 p6 p7:String} {Ex af1 af2 Yd af4 Ye UY UZ:Array Edge} {X:Nat->Prop} {n:Nat} {v:Value} {dx:List Tr}
  (b lo h:Nat)
  (vp:Value)
  (f:FuncId)
  (argv:Array Value)
  (B:List PanicEntry->Prop)
  (D:Tr->World->Prop)
  (hK:aN w0 lo h v dx)
  (yz:ah w0 lo X v dx)
  (hzl:∀q,X q->q < w0.heap.size)
  (hc:w0.cell? ⟨h,6,none⟩=some v)
  (hf:w0.frozen? ⟨h,6,none⟩=false)
  (hbl:b < lo)
  (Np:h < w0.heap.size)
  (hlo:lo<=w0.heap.size)
  (hne:h≠b)
  (hlen:dx.length<=3*cK)
  (hD:∀t,Calm w0.heap.size (D t))
  (hD2:∀t,Calm lo (D t))
  (hcall:Calls Tryz.prog f argv w0.drew (Ij b w0.drew B D))
  (hbad:∀(a:Act) (w':World) (c:List PanicEntry),a.defers=a0.defers->B c->Gr (·=b) w0 w'->Q (.panic c) a w')
  (hnext:∀(vals:Nat->Value) (w':World) (A:Option Addr) (c:Nat) (t:Tr),D t w'->aN w' lo h (.slice A (dx.length+1) c) (dx ++ [t])->ah w' lo X (.slice A (dx.length+1) c) (dx ++ [t])->Gr (Wr b lo h) w0 w'->Gr (WX b v) w0 w'->(∀q,(Value.slice A (dx.length+1) c).ownBlock=some q->v.ownBlock=some q\/w0.heap.size<=q)->
   Q .normal ((((((((a0.put (some d0) (vals 0)).put (some d1) (vals 1)).put (some d2) (vals 2)).put (some d3) (vals 3)).put (some d4) (vals 4)).put (some d5) (vals 5)).put (some d6) (vals 6)).put none undef) (w'.setCell ⟨h,6,none⟩ (.slice A (dx.length+1) c)))
  (hops:ops=#[
   { dst:=some d0,op:=.fieldAddr 24 (.tmp tx) 6,type:=y0,pos:=p0,after:=Ex,guard:=none },
   { dst:=some d1,op:=.load 22 (.tmp d0),type:=y1,pos:=p1,after:=af1,guard:=none },
   { dst:=some d2,op:=.move (.tmp tp),type:=y2,pos:=p2,after:=af2,guard:=none },
   { dst:=some d3,op:=.call c3,type:=y3,pos:=p3,after:=Yd,guard:=none },
   { dst:=some d4,op:=.buildSlice 22 1 #[(0,.tmp d3)],type:=y4,pos:=p4,after:=af4,guard:=none },
   { dst:=some d5,op:=.call { callee:=.builtin .append,args:=#[.tmp d1,.tmp d4],argTypes:=#[22,22] },type:=y5,pos:=p5,after:=Ye,guard:=none },
   { dst:=some d6,op:=.fieldAddr 24 (.tmp tx) 6,type:=y6,pos:=p6,after:=UY,guard:=none },
   { dst:=none,op:=.store 22 (.tmp d6) (.tmp d5),type:=y7,pos:=p7,after:=UZ,guard:=none }]:=by rfl)
  (hB:preB ops 6=true:=by kernel_rfl)
  (hn:a0.tmps.size=n:=by rfl)
  (hin:Ux ops 7 n=true:=by kernel_rfl)
  (hnx:zn ops tx=true:=by kernel_rfl)
  (hnp:zn ops tp=true:=by kernel_rfl)
  (aby:d6≠d5:=by decide)
  (e10:dep ops 1 0=true:=by kernel_rfl)
  (e32:dep ops 3 2=true:=by kernel_rfl)
  (e43:dep ops 4 3=true:=by kernel_rfl)
  (e51:dep ops 5 1=true:=by kernel_rfl)
  (e54:dep ops 5 4=true:=by kernel_rfl)
  (hr6:Region.ready .any ops (nU 6 8)=[6]:=by kernel_rfl)
  (hr7:Region.ready .any ops ((nU 6 8).setIfInBounds 6 true)=[7]:=by kernel_rfl)
  (hr8:Region.ready .any ops (((nU 6 8).setIfInBounds 6 true).setIfInBounds 7 true)=[]:=by kernel_rfl)
  (htx:a0.eval (.tmp tx)= .pointer (some ⟨h,0,none⟩):=by rfl)
  (htp:a0.eval (.tmp tp)=vp:=by rfl)
  (hrun:∀(a:Act) (w:World),a.eval (.tmp d2)=vp->(execOp a.eval { dst:=some d3,op:=.call c3,type:=y3,pos:=p3,after:=Yd,guard:=none }).run Tryz.prog w= .ok (.enter f argv) w:=by (intro a w h;simp [Act.eval] at h;unfold execOp;go_simp)):
  (Code.region id ops true).wp Tryz.prog Q a0 w0:=by
 have agH:Ux ops 6 n=true:=by
  unfold Ux at hin |-
  rw [List.all_eq_true] at hin |-
  intro o ho
  exact hin o (List.mem_of_mem_take (i:=6) (by simpa [List.take_take] using ho))
 have nx:=fD hnx
 have np:=fD hnp
 subst hops
 have hSz:∀g,lo<=g->¬X g->g < w0.heap.size->¬g=b:=fun g h1 _ _ h2=>by omega
 have hS:∀g,lo<=g->g≠h->g < w0.heap.size->¬g=b:=fun g h1 _ _ h2=>by omega
 refine rE 6 (by kernel_rfl) hB (JA b w0 h X lo vp v dx D) ?_ ?_ n hn agH ?_ ?_
 ·intro L L' vals w hL j
  have e0:=hL 0 (by omega);have e1:=hL 1 (by omega);have e2:=hL 2 (by omega);have e3:=hL 3 (by omega);have e4:=hL 4 (by omega);have e5:=hL 5 (by omega)
  exact ⟨e0▸j.v0,e1▸j.v1,e2▸j.v2,e3▸e4▸j.d4,e4▸e5▸j.d5,j.gr,e3▸j.q0,e5▸j.q1,e3▸e4▸j.p1,e4▸e5▸j.p2,e5▸j.p3⟩
 ·intro vals
  exact ⟨nofun,nofun,nofun,nofun,nofun,(Gr.refl _).drew,fun _=>rfl,fun _=>(Gr.refl _).drew,nofun,nofun,nofun⟩
 ·intro i o ho hi a w L vals j vB had hun hev rG K hK2
  rcases six hi with rfl|rfl|rfl|rfl|rfl|rfl
  ·obtain rfl:=Option.some.inj ho
   refine aY (sZ _ _ _ _ _ _ _ h ((hun tx nx).trans htx)) (hK2 _ _ ?_)
   exact ⟨fun _=>rfl,j.v1,j.v2,j.d4,j.d5,j.gr,j.q0,j.q1,j.p1,j.p2,j.p3⟩
  ·obtain rfl:=Option.some.inj ho
   obtain ⟨e,he,hon,hb⟩:=vG e10 rfl
   have l0:L 0=true:=by have:=rG e he hb;rwa [hon] at this
   have hcw:w.cell? ⟨h,6,none⟩=some v:=(j.gr.cell (p:=⟨h,6,none⟩) (by show h < _;omega) (by unfold WX;exact fun he=>he.elim hne hK.1)).trans hc
   refine aY (vF _ _ _ _ _ _ _ h 6 v ((hev 0 _ _ (by omega) rfl rfl l0).trans (j.v0 l0)) hcw) (hK2 _ _ ?_)
   exact ⟨j.v0,fun _=>rfl,j.v2,j.d4,j.d5,j.gr,j.q0,j.q1,j.p1,j.p2,j.p3⟩
  ·obtain rfl:=Option.some.inj ho
   refine aY (qd _ _ _ _ _ _ _ _ ((hun tp np).trans htp)) (hK2 _ _ ?_)
   exact ⟨j.v0,j.v1,fun _=>rfl,j.d4,j.d5,j.gr,j.q0,j.q1,j.p1,j.p2,j.p3⟩
  ·obtain rfl:=Option.some.inj ho
   obtain ⟨e,he,hon,hb⟩:=vG e32 rfl
   have l2:L 2=true:=by have:=rG e he hb;rwa [hon] at this
   have l4:L 4=false:=by
    cases h4:L 4 with
    |false=>rfl
    |true=>have:=j.d4 h4;rw [vB] at this;cases this
   have l5:L 5=false:=by
    cases h5:L 5 with
    |false=>rfl
    |true=>have:=j.d5 h5;rw [l4] at this;cases this
   obtain rfl:=j.q0 vB
   refine fP (hrun a _ ((hev 2 _ _ (by omega) rfl rfl l2).trans (j.v2 l2))) (hcall.mono ?_)
   rintro e w1 ⟨hg,⟨c,hbc,rfl⟩|⟨k,op,nn,p,t,aa,ks,A,c,rfl,hk1,hd1⟩⟩
   ·exact hbad a w1 c had hbc (Gr.trans (Gr.refl w0).drew hg)
   ·have g1:Gr (·=b) w0 w1:=Gr.trans (Gr.refl w0).drew hg
    refine hK2 _ _ ⟨j.v0,j.v1,j.v2,fun _=>rfl,j.d5,g1.mono fun k _ hk=>.inl hk,nofun,fun _=>g1,fun _ _=>⟨k,op,nn,p,t,aa,ks,A,c,rfl,hk1,hd1⟩,fun h4=>?_,fun h5=>?_⟩
    ·rw [show upd L 3 true 4=L 4 from rfl,l4] at h4;cases h4
    ·rw [show upd L 3 true 5=L 5 from rfl,l5] at h5;cases h5
  ·obtain rfl:=Option.some.inj ho
   obtain ⟨e,he,hon,hb⟩:=vG e43 rfl
   have l3:L 3=true:=by have:=rG e he hb;rwa [hon] at this
   have l5:L 5=false:=by
    cases h5:L 5 with
    |false=>rfl
    |true=>have:=j.d5 h5;rw [vB] at this;cases this
   obtain ⟨k,op,nn,p,t,aa,ks,A,c,hv3,hk1,hd1⟩:=j.p1 l3 vB
   have hs1:=j.gr.size
   refine aY (Ih _ _ _ _ _ _ _ _ _ _ _ _ _ A ks.length c ((hev 3 _ _ (by omega) rfl rfl l3).trans hv3)) (hK2 _ _ ?_)
   have hk2:=aI.lit (n:=1) (bO.single (hk1.rep k op nn p t aa)) hs1 (by simp [maxLen]) rfl
   refine ⟨j.v0,j.v1,j.v2,fun _=>l3,fun _=>rfl,j.gr.alloc _,fun h3=>?_,fun _=>(j.q1 l5).alloc _,nofun,fun _ _=>⟨_,_,rfl,hk2,(hD _).alloc hd1 _⟩,fun h5=>?_⟩
   ·rw [show upd L 4 true 3=L 3 from rfl,l3] at h3;cases h3
   ·rw [show upd L 4 true 5=L 5 from rfl,l5] at h5;cases h5
  ·obtain rfl:=Option.some.inj ho
   obtain ⟨e,he,hon,hb⟩:=vG e51 rfl
   have l1:L 1=true:=by have:=rG e he hb;rwa [hon] at this
   obtain ⟨e,he,hon,hb⟩:=vG e54 rfl
   have l4:L 4=true:=by have:=rG e he hb;rwa [hon] at this
   have l3:=j.d4 l4
   obtain ⟨g,t,hv4,hk1,hd1⟩:=j.p2 l4 vB
   have g1:=j.q1 vB
   have hK1:=hK.gr g1 hS
   refine AV hK1 (yz.gr g1 hSz) hzl (fun q hq=>by have:=g1.size;have:=hzl q hq;omega) (fun q hq=>(hK.own hq).2.1) hk1 hlo Np hlen (by have:=g1.size;omega) (by have:=g1.size;omega) _ _ rfl ((hev 1 _ _ (by omega) rfl rfl l1).trans (j.v1 l1)) ((hev 4 _ _ (by omega) rfl rfl l4).trans hv4) ?_
   intro A c w' ho2 hk2 abz hg2
   refine hK2 _ _ ⟨j.v0,j.v1,j.v2,fun _=>l3,fun _=>l4,(g1.mono fun k _ hk=>Or.inl hk).trans (hg2.mono fun k _ hk=>Or.inr hk),fun h3=>?_,nofun,fun _ h4=>?_,nofun,fun _=>⟨A,c,t,rfl,fun q hq=>(ho2 q hq).imp (fun h=>h) fun h=>Nat.le_trans g1.size h,hk2,abz,hD2 _ _ _ hd1 (hg2.mono fun k _ hk=>(hK.own hk).1)⟩⟩
   ·rw [show upd L 5 true 3=L 3 from rfl,l3] at h3;cases h3
   ·rw [show upd L 5 true 4=L 4 from rfl,l4] at h4;cases h4
 ·intro vals w a ha _ hun hev hsz j
  obtain ⟨A,c,t,hv5,ho1,hk1,NM,hd1⟩:=j.p3 rfl
  have hfw:w.frozen? ⟨h,6,none⟩=false:=(World.frozen?_of_block (a:=⟨h,6,none⟩) (j.gr.block h (by omega) (by unfold WX;exact fun he=>he.elim hne hK.1))).trans hf
  have hcw:w.cell? ⟨h,6,none⟩=some v:=(j.gr.cell (p:=⟨h,6,none⟩) (by show h < _;omega) (by unfold WX;exact fun he=>he.elim hne hK.1)).trans hc
  have hd6:d6 < a.tmps.size:=by rw [hsz];exact UQ hin 6 _ _ (by omega) rfl rfl
  refine o6 (i:=6) hr6 rfl rfl (aY (sZ _ _ _ _ _ _ _ h ((hun tx nx).trans htx)) ?_)
  refine o6 (i:=7) hr7 rfl rfl ?_
  have t6:(a.put (some d6) (.pointer (some ⟨h,6,none⟩))).eval (.tmp d6)= .pointer (some ⟨h,6,none⟩):=oN _ _ _ hd6
  have t5:(a.put (some d6) (.pointer (some ⟨h,6,none⟩))).eval (.tmp d5)= .slice A (dx.length+1) c:=(eval_put_ne _ _ _ _ (by simpa using aby)).trans ((hev 5 _ _ (by omega) rfl rfl).trans hv5)
  refine tu _ _ _ _ _ _ _ h 6 v _ _ _ t6 t5 hcw hfw ?_
  refine sQ hr8 ?_
  have:=hnext (upd vals 6 (.pointer (some ⟨h,6,none⟩))) w A c t hd1 hk1 NM (j.gr.mono fun k _ hk=>hk.elim .inl fun e=>.inr ⟨(hK.own e).1,(hK.own e).2.2⟩) j.gr ho1
  rw [ha]
  exact this
theorem nX {id:Nat} {a0:Act} {w0:World} {Q:Exit->Act->World->Prop} {ops:Array Oper} {d0 d1 d2 d3 d4 d5 d6 tx tp:Nat} {c3:Call} {y0 y1 y2 y3 y4 y5 y6 y7:TypeId} {p0 p1 p2 p3 p4 p5 p6 p7:String} {Ex af1 af2 Yd af4 Ye UY UZ:Array Edge} {n:Nat} {v:Value} {dx:List Tr}
  (b lo h:Nat)
  (f:FuncId)
  (argv:Array Value)
  (B:List PanicEntry->Prop)
  (D:Tr->World->Prop)
  (hK:aN w0 lo h v dx)
  (hc:w0.cell? ⟨h,6,none⟩=some v)
  (hf:w0.frozen? ⟨h,6,none⟩=false)
  (hbl:b < lo)
  (Np:h < w0.heap.size)
  (hlo:lo<=w0.heap.size)
  (hne:h≠b)
  (hlen:dx.length<=3*cK)
  (hD:∀t,Calm w0.heap.size (D t))
  (hD2:∀t,Calm lo (D t))
  (hcall:Calls Tryz.prog f argv w0.drew (Ij b w0.drew B D))
  (hbad:∀(a:Act) (w':World) (c:List PanicEntry),a.defers=a0.defers->B c->Gr (·=b) w0 w'->Q (.panic c) a w')
  (hnext:∀(vals:Nat->Value) (w':World) (A:Option Addr) (c:Nat) (t:Tr),D t w'->aN w' lo h (.slice A (dx.length+1) c) (dx ++ [t])->Gr (Wr b lo h) w0 w'->Gr (WX b v) w0 w'->(∀q,(Value.slice A (dx.length+1) c).ownBlock=some q->v.ownBlock=some q\/w0.heap.size<=q)->
   Q .normal ((((((((a0.put (some d0) (vals 0)).put (some d1) (vals 1)).put (some d2) (vals 2)).put (some d3) (vals 3)).put (some d4) (vals 4)).put (some d5) (vals 5)).put (some d6) (vals 6)).put none undef) (w'.setCell ⟨h,6,none⟩ (.slice A (dx.length+1) c)))
  (hops:ops=#[
   { dst:=some d0,op:=.fieldAddr 24 (.tmp tx) 6,type:=y0,pos:=p0,after:=Ex,guard:=none },
   { dst:=some d1,op:=.load 22 (.tmp d0),type:=y1,pos:=p1,after:=af1,guard:=none },
   { dst:=some d2,op:=.move (.tmp tp),type:=y2,pos:=p2,after:=af2,guard:=none },
   { dst:=some d3,op:=.call c3,type:=y3,pos:=p3,after:=Yd,guard:=none },
   { dst:=some d4,op:=.buildSlice 22 1 #[(0,.tmp d3)],type:=y4,pos:=p4,after:=af4,guard:=none },
   { dst:=some d5,op:=.call { callee:=.builtin .append,args:=#[.tmp d1,.tmp d4],argTypes:=#[22,22] },type:=y5,pos:=p5,after:=Ye,guard:=none },
   { dst:=some d6,op:=.fieldAddr 24 (.tmp tx) 6,type:=y6,pos:=p6,after:=UY,guard:=none },
   { dst:=none,op:=.store 22 (.tmp d6) (.tmp d5),type:=y7,pos:=p7,after:=UZ,guard:=none }]:=by rfl)
  (hB:preB ops 6=true:=by kernel_rfl)
  (hn:a0.tmps.size=n:=by rfl)
  (hin:Ux ops 7 n=true:=by kernel_rfl)
  (hnx:zn ops tx=true:=by kernel_rfl)
  (hnp:zn ops tp=true:=by kernel_rfl)
  (aby:d6≠d5:=by decide)
  (e10:dep ops 1 0=true:=by kernel_rfl)
  (e32:dep ops 3 2=true:=by kernel_rfl)
  (e43:dep ops 4 3=true:=by kernel_rfl)
  (e51:dep ops 5 1=true:=by kernel_rfl)
  (e54:dep ops 5 4=true:=by kernel_rfl)
  (hr6:Region.ready .any ops (nU 6 8)=[6]:=by kernel_rfl)
  (hr7:Region.ready .any ops ((nU 6 8).setIfInBounds 6 true)=[7]:=by kernel_rfl)
  (hr8:Region.ready .any ops (((nU 6 8).setIfInBounds 6 true).setIfInBounds 7 true)=[]:=by kernel_rfl)
  (htx:a0.eval (.tmp tx)= .pointer (some ⟨h,0,none⟩):=by rfl)
  (htp:a0.eval (.tmp tp)= .pointer (some ⟨b,0,none⟩):=by rfl)
  (hrun:∀(a:Act) (w:World),a.eval (.tmp d2)= .pointer (some ⟨b,0,none⟩)->(execOp a.eval { dst:=some d3,op:=.call c3,type:=y3,pos:=p3,after:=Yd,guard:=none }).run Tryz.prog w= .ok (.enter f argv) w:=by (intro a w h;simp [Act.eval] at h;unfold execOp;go_simp)):
  (Code.region id ops true).wp Tryz.prog Q a0 w0:=
 dD b lo h (.pointer (some ⟨b,0,none⟩)) f argv B D hK hK.p (fun q hq=>by have:q=h:=hq;omega) hc hf hbl Np hlo hne hlen hD hD2 hcall hbad (fun vals w' A c t h1 h2 _ h3 h4 h5=>hnext vals w' A c t h1 h2 h3 h4 h5) hops hB hn hin hnx hnp aby e10 e32 e43 e51 e54 hr6 hr7 hr8 htx htp hrun
def Jm (b:Nat) (w:World) (B:List PanicEntry->Prop) (D:List Tr->World->Prop) (e:Ending) (w':World):Prop:=
 Gr (·=b) w w'/\((∃c,B c/\e= .panicked c)\/∃(ks:List Tr) (A:Option Addr) (c:Nat),e= .returned (.slice A ks.length c)/\ks.length<=cK/\aI w' w.heap.size (.slice A ks.length c) ks/\D ks w')
structure JE (b:Nat) (w0:World) (h:Nat) (X:Nat->Prop) (lo m ci pi:Nat) (lv:Nat->Value) (v:Value) (dx:List Tr) (D:List Tr->World->Prop) (L:Nat->Bool) (vals:Nat->Value) (w:World):Prop where
 li:∀i,i < m->i≠ci->i≠pi->L i=true->vals i=lv i
 d:L pi=true->L ci=true
 gr:Gr (WX b v) w0 w
 q0:L ci=false->w=w0.drew
 q1:L pi=false->Gr (·=b) w0 w
 p1:L ci=true->L pi=false->∃(us:List Tr) (A:Option Addr) (c:Nat),vals ci= .slice A us.length c/\us.length<=cK/\aI w w0.heap.size (.slice A us.length c) us/\D us w
 p3:L pi=true->∃A c us,vals pi= .slice A (dx ++ us).length c/\us.length<=cK/\aN w lo h (.slice A (dx ++ us).length c) (dx ++ us)/\ah w lo X (.slice A (dx ++ us).length c) (dx ++ us)/\D us w
theorem U0 {w:World} {lo N h:Nat} {X:Nat->Prop} {v:Value} {dx us:List Tr} {A:Option Addr} {c:Nat} (hK:aN w lo h v dx) (yz:ah w lo X v dx) (YF:∀q,X q->q < N) (hzw:∀q,X q->q < w.heap.size) (hv:∀q,v.ownBlock=some q->q < N) (hN:aI w N (.slice A us.length c) us) (hlo:lo<=N) (hhN:h < N) (hlen:dx.length<=3*cK) (Uy:us.length<=cK) (hsz:lo<=w.heap.size) (hhw:h < w.heap.size)
  {o:Oper} {a:Act} {K:Act->World->Prop} {Q:Exit->Act->World->Prop} (s x:Operand)
  (ho:o.op= .call { callee:=.builtin .append,args:=#[s,x],argTypes:=#[22,22] }) (hs:a.eval s=v) (hx:a.eval x= .slice A us.length c)
  (hk:∀A c w',aN w' lo h (.slice A (dx ++ us).length c) (dx ++ us)->ah w' lo X (.slice A (dx ++ us).length c) (dx ++ us)->Gr (fun k=>v.ownBlock=some k) w w'->K (a.put o.dst (.slice A (dx ++ us).length c)) w'):o.wp Tryz.prog a w K Q:=by
 obtain ⟨i0,hi0,hz0,hz1,hz2⟩:=info_parts Cf
 obtain ⟨h0,xs,h1,h2⟩:=hK
 obtain ⟨h0z,xsz,h1z,h2z⟩:=yz
 have exz:xs=xsz:=Ew h1 h1z
 subst exz
 obtain ⟨ys,k1,k2⟩:=hN
 have hrd:=Reads.Ny k1
 have h3:bO w (fun q=>lo<=q/\v.ownBlock≠some q/\q≠h) us ys:=bO.keep (fun _ _ _=>rfl) (Nat.le_refl _) (fun q _ hq=>⟨by omega,(fun e=>by have:=hv q e;omega),by omega⟩) _ _ k2
 have h3z:bO w (fun q=>lo<=q/\v.ownBlock≠some q/\¬X q) us ys:=bO.keep (fun _ _ _=>rfl) (Nat.le_refl _) (fun q _ hq=>⟨by omega,(fun e=>by have:=hv q e;omega),fun e=>by have:=YF q e;omega⟩) _ _ k2
 unfold cK at hlen Uy
 refine ry w s x _ ho lo 24 i0 _ 7 88 Tryz.underlying22 hi0 hz0 hz1 hz2 rfl (by omega) v dx.length xs hs h1 _ _ us.length c ys hx hrd k2.one (by simp only [maxLen];omega) (by omega) hsz ?_
 intro v' w' g1 g2 g3
 obtain ⟨A,c,rfl⟩:=kM g1
 have hl:(dx ++ us).length=dx.length+us.length:=List.length_append
 have:=aN.app (us:=us) h0 h1 h2 h3 g1 g2 g3 hhw
 have thz:=ah.app (us:=us) h0z h1z h2z h3z g1 g2 g3 hzw
 rw [<-hl] at this thz |-
 exact hk A c w' this thz (Gr.Ev g2 fun q hq _=>hq)
theorem Lf {id:Nat} {a0:Act} {w0:World} {Q:Exit->Act->World->Prop} {ops:Array Oper} {dc dp d0 d1:Nat} {oc op:Oper}
  (m ci pi li b lo h:Nat) (X:Nat->Prop) (n:Nat) (lv:Nat->Value) (v:Value) (dx:List Tr) (f:FuncId) (argv:Array Value) (B:List PanicEntry->Prop) (D:List Tr->World->Prop)
  (hB:preB ops m=true) (hn:a0.tmps.size=n) (hin:Ux ops m n=true) (hcm:ci < m) (hpm:pi < m) (hcp:ci≠pi) (hlc:li≠ci) (hlp:li≠pi) (hlm:li < m)
  (hoc:ops[ci]? =some oc) (hop:ops[pi]? =some op) (hdc:oc.dst=some dc) (hdp:op.dst=some dp) (hdl:∃ol,ops[li]? =some ol/\ol.dst=some d1)
  (ho:op.op= .call { callee:=.builtin .append,args:=#[.tmp d1,.tmp dc],argTypes:=#[22,22] })
  (epc:dep ops pi ci=true) (epl:dep ops pi li=true) (hlv:lv li=v)
  (hrun:∀(a:Act) (w:World),(∀(j:Nat) (o':Oper) (d:Nat),j < m->ops[j]? =some o'->o'.dst=some d->dep ops ci j=true->j≠ci->j≠pi->a.eval (.tmp d)=lv j)->(execOp a.eval oc).run Tryz.prog w= .ok (.enter f argv) w)
  (vH:∀(i:Nat) (o:Oper),ops[i]? =some o->i < m->i≠ci->i≠pi->∀(a:Act) (w:World),Gr (Wr b lo h) w0 w->(∀t,(∀o'∈ops,o'.dst≠some t)->a.eval (.tmp t)=a0.eval (.tmp t))->
   (∀(j:Nat) (o':Oper) (d:Nat),j < m->ops[j]? =some o'->o'.dst=some d->dep ops i j=true->a.eval (.tmp d)=lv j)->(execOp a.eval o).run Tryz.prog w= .ok (.value (lv i)) w)
  (Sm:∀i,i < m->i≠ci->i≠pi->dep ops i ci=false/\dep ops i pi=false) (hcp2:dep ops ci pi=false/\dep ops ci ci=false)
  (hK:aN w0 lo h v dx) (yz:ah w0 lo X v dx) (hzl:∀q,X q->q < w0.heap.size) (Np:h < w0.heap.size) (hbl:b < lo) (hlo:lo<=w0.heap.size) (hlen:dx.length<=3*cK)
  (hD2:∀t,Calm lo (D t)) (hcall:Calls Tryz.prog f argv w0.drew (Jm b w0.drew B D))
  (hbad:∀(a:Act) (w':World) (c:List PanicEntry),a.defers=a0.defers->B c->Gr (·=b) w0 w'->Q (.panic c) a w')
  (hnext:∀(vals:Nat->Value) (a:Act) (w':World) (A:Option Addr) (c:Nat) (us:List Tr),a=bG vals (ops.toList.take m) 0 a0->a.defers=a0.defers->a.tmps.size=n->(∀t,(∀o'∈ops,o'.dst≠some t)->a.eval (.tmp t)=a0.eval (.tmp t))->(∀(j:Nat) (o':Oper) (d:Nat),j < m->ops[j]? =some o'->o'.dst=some d->j≠ci->j≠pi->a.eval (.tmp d)=lv j)->a.eval (.tmp dp)= .slice A (dx ++ us).length c->D us w'->us.length<=cK->aN w' lo h (.slice A (dx ++ us).length c) (dx ++ us)->ah w' lo X (.slice A (dx ++ us).length c) (dx ++ us)->Gr (Wr b lo h) w0 w'->Gr (WX b v) w0 w'->
   wpAny Tryz.prog .any ops Q (ops.size - m) (nU m ops.size) a w'):
  (Code.region id ops true).wp Tryz.prog Q a0 w0:=by
 have hSz:∀g,lo<=g->¬X g->g < w0.heap.size->¬g=b:=fun g h1 _ _ h2=>by omega
 have hS:∀g,lo<=g->g≠h->g < w0.heap.size->¬g=b:=fun g h1 _ _ h2=>by omega
 have yN:∀(i j:Nat) (o:Oper) (L:Nat->Bool),ops[i]? =some o->dep ops i j=true->(∀e∈o.after,Region.binds .any e=true->L e.on=true)->L j=true:=by
  intro i j o L ho hd hall
  obtain ⟨e,he,hon,hb⟩:=vG hd ho
  have:=hall e he hb
  rwa [hon] at this
 refine rE m (by kernel_rfl) hB (JE b w0 h X lo m ci pi lv v dx D) ?_ ?_ n hn hin ?_ ?_
 ·intro L L' vals w hL j
  have ec:=hL ci hcm;have ep:=hL pi hpm
  exact ⟨fun i hi h1 h2 h3=>j.li i hi h1 h2 (by rw [hL i hi];exact h3),ec▸ep▸j.d,j.gr,ec▸j.q0,ep▸j.q1,ec▸ep▸j.p1,ep▸j.p3⟩
 ·intro vals
  exact ⟨nofun,nofun,(Gr.refl _).drew,fun _=>rfl,fun _=>(Gr.refl _).drew,nofun,nofun⟩
 ·intro i o hoi hi a w L vals j vB had hun hev rG K hK2
  by_cases hic:i=ci
  ·subst hic
   obtain rfl:oc=o:=Option.some.inj (hoc.symm.trans hoi)
   have lp:L pi=false:=by
    cases h5:L pi with
    |false=>rfl
    |true=>have:=j.d h5;rw [vB] at this;cases this
   obtain rfl:=j.q0 vB
   refine fP (hrun a _ (fun k o' d hk ho' hd U1 h1 h2=>?_)) (hcall.mono ?_)
   ·have lk:=yN i k _ L hoc U1 rG
    rw [hev k o' d hk ho' hd lk]
    exact j.li k hk h1 h2 lk
   rintro e w1 ⟨hg,⟨c,hbc,rfl⟩|⟨us,A,c,rfl,hl1,hk1,hd1⟩⟩
   ·exact hbad a w1 c had hbc (Gr.trans (Gr.refl w0).drew hg)
   ·have g1:Gr (·=b) w0 w1:=Gr.trans (Gr.refl w0).drew hg
    refine hK2 _ _ ⟨fun k hk h1 h2 h3=>?_,fun _=>jc _ _ _,g1.mono fun k _ hk=>.inl hk,fun h=>?_,fun _=>g1,fun _ _=>⟨us,A,c,jc _ _ _,hl1,hk1,hd1⟩,fun h5=>?_⟩
    ·rw [upd_ne _ _ _ h1] at h3 |-;exact j.li k hk h1 h2 h3
    ·rw [jc] at h;cases h
    ·rw [upd_ne _ _ _ (Ne.symm hcp),lp] at h5;cases h5
  ·by_cases hip:i=pi
   ·subst hip
    obtain rfl:op=o:=Option.some.inj (hop.symm.trans hoi)
    have lc:L ci=true:=yN i ci _ L hop epc rG
    have ll:L li=true:=yN i li _ L hop epl rG
    obtain ⟨us,A,c,YG,hl1,hk1,hd1⟩:=j.p1 lc vB
    have g1:=j.q1 vB
    have hK1:=hK.gr g1 hS
    obtain ⟨ol,hol,hdl⟩:=hdl
    refine U0 hK1 (yz.gr g1 hSz) hzl (fun q hq=>by have:=g1.size;have:=hzl q hq;omega) (fun q hq=>(hK.own hq).2.1) hk1 hlo Np hlen hl1 (by have:=g1.size;omega) (by have:=g1.size;omega) _ _ ho ((hev li _ _ hlm hol hdl ll).trans ((j.li li hlm hlc hlp ll).trans hlv)) ((hev ci _ _ hcm hoc hdc lc).trans YG) ?_
    intro A c w' hk2 abz hg2
    refine hK2 _ _ ⟨fun k hk h1 h2 h3=>?_,fun _=>?_,(g1.mono fun k _ hk=>Or.inl hk).trans (hg2.mono fun k _ hk=>Or.inr hk),fun h=>?_,fun h=>?_,fun _ h=>?_,fun _=>⟨A,c,us,jc _ _ _,hl1,hk2,abz,hD2 _ _ _ hd1 (hg2.mono fun k _ hk=>(hK.own hk).1)⟩⟩
    ·rw [upd_ne _ _ _ h2] at h3 |-;exact j.li k hk h1 h2 h3
    ·rw [upd_ne _ _ _ hcp];exact lc
    ·rw [upd_ne _ _ _ hcp,lc] at h;cases h
    ·rw [jc] at h;cases h
    ·rw [jc] at h;cases h
   ·refine aY (vH i o hoi hi hic hip a w (j.gr.mono fun k _ hk=>hk.elim .inl fun e=>.inr ⟨(hK.own e).1,(hK.own e).2.2⟩) hun (fun k o' d hk ho' hd hdk=>?_)) (hK2 _ _ ?_)
    ·have lk:=yN i k _ L hoi hdk rG
     have hkc:k≠ci:=by rintro rfl;rw [(Sm i hi hic hip).1] at hdk;cases hdk
     have hkp:k≠pi:=by rintro rfl;rw [(Sm i hi hic hip).2] at hdk;cases hdk
     rw [hev k o' d hk ho' hd lk]
     exact j.li k hk hkc hkp lk
    ·have ec:∀{α:Type} (f:Nat->α) (v:α),upd f i v ci=f ci:=fun f v=>upd_ne _ _ _ (Ne.symm hic)
     have ep:∀{α:Type} (f:Nat->α) (v:α),upd f i v pi=f pi:=fun f v=>upd_ne _ _ _ (Ne.symm hip)
     refine ⟨fun k hk h1 h2 h3=>?_,by rw [ec,ep];exact j.d,j.gr,by rw [ec];exact j.q0,by rw [ep];exact j.q1,by rw [ec,ep,ec];exact j.p1,by rw [ep,ep];exact j.p3⟩
     by_cases hki:k=i
     ·subst hki;rw [jc]
     ·rw [upd_ne _ _ _ hki] at h3 |-;exact j.li k hk h1 h2 h3
 ·intro vals w a ha had hun hev hsz j
  obtain ⟨A,c,us,hvp,hl1,hk1,NM,hd1⟩:=j.p3 rfl
  exact hnext vals a w A c us ha had hsz hun (fun k o' d hk ho' hd h1 h2=>(hev k o' d hk ho' hd).trans (j.li k hk h1 h2 rfl)) ((hev pi _ _ hpm hop hdp).trans hvp) hd1 hl1 hk1 NM (j.gr.mono fun k _ hk=>hk.elim .inl fun e=>.inr ⟨(hK.own e).1,(hK.own e).2.2⟩) j.gr
def Cg (E:Env) (o:Nat) (g:Tr->List T->R) (r:R) (us:List Tr) (w:World):Prop:=∃l,g (NJ us) l=r/\PS E w l o
theorem Ch {id:Nat} {a0:Act} {w0:World} {Q:Exit->Act->World->Prop} {ops:Array Oper} {dc dp d1 d6 tx:Nat} {oc op:Oper} {y6 y7:TypeId} {p6 p7:String} {UY UZ:Array Edge}
  (m ci pi li b lo h:Nat) (X:Nat->Prop) (n:Nat) (lv:Nat->Value) (v:Value) (dx:List Tr) (f:FuncId) (argv:Array Value) (B:List PanicEntry->Prop) (D:List Tr->World->Prop)
  (hB:preB ops m=true) (hn:a0.tmps.size=n) (hin:Ux ops m n=true) (hcm:ci < m) (hpm:pi < m) (hcp:ci≠pi) (hlc:li≠ci) (hlp:li≠pi) (hlm:li < m)
  (hoc:ops[ci]? =some oc) (hop:ops[pi]? =some op) (hdc:oc.dst=some dc) (hdp:op.dst=some dp) (hdl:∃ol,ops[li]? =some ol/\ol.dst=some d1)
  (ho:op.op= .call { callee:=.builtin .append,args:=#[.tmp d1,.tmp dc],argTypes:=#[22,22] })
  (epc:dep ops pi ci=true) (epl:dep ops pi li=true) (hlv:lv li=v)
  (hrun:∀(a:Act) (w:World),(∀(j:Nat) (o':Oper) (d:Nat),j < m->ops[j]? =some o'->o'.dst=some d->dep ops ci j=true->j≠ci->j≠pi->a.eval (.tmp d)=lv j)->(execOp a.eval oc).run Tryz.prog w= .ok (.enter f argv) w)
  (vH:∀(i:Nat) (o:Oper),ops[i]? =some o->i < m->i≠ci->i≠pi->∀(a:Act) (w:World),w.cell? ⟨h,6,none⟩=some v->(∀t,(∀o'∈ops,o'.dst≠some t)->a.eval (.tmp t)=a0.eval (.tmp t))->
   (∀(j:Nat) (o':Oper) (d:Nat),j < m->ops[j]? =some o'->o'.dst=some d->dep ops i j=true->a.eval (.tmp d)=lv j)->(execOp a.eval o).run Tryz.prog w= .ok (.value (lv i)) w)
  (Sm:∀i,i < m->i≠ci->i≠pi->dep ops i ci=false/\dep ops i pi=false) (hcp2:dep ops ci pi=false/\dep ops ci ci=false)
  (hm2:ops.size=m+2) (abA:d6≠dp) (agI:d6 < n) (ho6:ops[m]? =some { dst:=some d6,op:=.fieldAddr 24 (.tmp tx) 6,type:=y6,pos:=p6,after:=UY,guard:=none }) (ho7:ops[m+1]? =some { dst:=none,op:=.store 22 (.tmp d6) (.tmp dp),type:=y7,pos:=p7,after:=UZ,guard:=none })
  (hr6:Region.ready .any ops (nU m ops.size)=[m]) (hr7:Region.ready .any ops ((nU m ops.size).setIfInBounds m true)=[m+1]) (hr8:Region.ready .any ops (((nU m ops.size).setIfInBounds m true).setIfInBounds (m+1) true)=[])
  (hnx:zn ops tx=true) (htx:a0.eval (.tmp tx)= .pointer (some ⟨h,0,none⟩))
  (hK:aN w0 lo h v dx) (yz:ah w0 lo X v dx) (hzl:∀q,X q->q < w0.heap.size) (hc:w0.cell? ⟨h,6,none⟩=some v) (hf:w0.frozen? ⟨h,6,none⟩=false) (hne:h≠b) (Np:h < w0.heap.size) (hbl:b < lo) (hlo:lo<=w0.heap.size) (hlen:dx.length<=3*cK)
  (hD2:∀t,Calm lo (D t)) (hcall:Calls Tryz.prog f argv w0.drew (Jm b w0.drew B D))
  (hbad:∀(a:Act) (w':World) (c:List PanicEntry),a.defers=a0.defers->B c->Gr (·=b) w0 w'->Q (.panic c) a w')
  (hnext:∀(vals:Nat->Value) (w':World) (A:Option Addr) (c:Nat) (us:List Tr),D us w'->us.length<=cK->aN w' lo h (.slice A (dx ++ us).length c) (dx ++ us)->ah w' lo X (.slice A (dx ++ us).length c) (dx ++ us)->Gr (Wr b lo h) w0 w'->Gr (WX b v) w0 w'->
   Q .normal (((bG vals (ops.toList.take m) 0 a0).put (some d6) (.pointer (some ⟨h,6,none⟩))).put none undef) (w'.setCell ⟨h,6,none⟩ (.slice A (dx ++ us).length c))):
  (Code.region id ops true).wp Tryz.prog Q a0 w0:=by
 have nx:=fD hnx
 refine Lf (d0:=0) m ci pi li b lo h X n lv v dx f argv B D hB hn hin hcm hpm hcp hlc hlp hlm hoc hop hdc hdp hdl ho epc epl hlv hrun ?_ Sm hcp2 hK yz hzl Np hbl hlo hlen hD2 hcall hbad ?_
 ·intro i o hoi hi h1 h2 a w hgr hun hev
  exact vH i o hoi hi h1 h2 a w ((hgr.cell (p:=⟨h,6,none⟩) (by show h < _;omega) (by unfold Wr;show ¬(h=b\/(lo<=h/\h≠h));omega)).trans hc) hun hev
 ·intro vals a w A c us ha _ hsz hun _ abB hd1 Uy hk1 NM hgr eB
  have hfw:w.frozen? ⟨h,6,none⟩=false:=(World.frozen?_of_block (a:=⟨h,6,none⟩) (hgr.block h (by omega) (by unfold Wr;omega))).trans hf
  have hcw:w.cell? ⟨h,6,none⟩=some v:=(hgr.cell (p:=⟨h,6,none⟩) (by show h < _;omega) (by unfold Wr;show ¬(h=b\/(lo<=h/\h≠h));omega)).trans hc
  have e2:ops.size - m=0+1+1:=by rw [hm2];exact Nat.add_sub_cancel_left ..
  rw [e2]
  refine o6 (i:=m) hr6 ho6 rfl (aY (sZ _ _ _ _ _ _ _ h ((hun tx nx).trans htx)) ?_)
  refine o6 (i:=m+1) hr7 ho7 rfl ?_
  have t6:(a.put (some d6) (.pointer (some ⟨h,6,none⟩))).eval (.tmp d6)= .pointer (some ⟨h,6,none⟩):=oN _ _ _ (by omega)
  have t5:(a.put (some d6) (.pointer (some ⟨h,6,none⟩))).eval (.tmp dp)= .slice A (dx ++ us).length c:=(eval_put_ne _ _ _ _ (by simpa using abA)).trans abB
  refine tu _ _ _ _ _ _ _ h 6 v _ _ _ t6 t5 hcw hfw ?_
  refine sQ hr8 ?_
  have:=hnext vals w A c us hd1 Uy hk1 NM hgr eB
  rw [ha]
  exact this
theorem Sn {id:Nat} {a0:Act} {w0:World} {Q:Exit->Act->World->Prop} {ops:Array Oper} {dc dp d1 d5 d6 tx:Nat} {oc op:Oper} {y5 y6 y7:TypeId} {p5 p6 p7:String} {Ye UY UZ:Array Edge}
  (m ci pi li b lo h:Nat) (X:Nat->Prop) (n:Nat) (lv:Nat->Value) (v:Value) (dx:List Tr) (f:FuncId) (argv:Array Value) (B:List PanicEntry->Prop) (D:List Tr->World->Prop)
  (hB:preB ops m=true) (hn:a0.tmps.size=n) (hin:Ux ops m n=true) (hcm:ci < m) (hpm:pi < m) (hcp:ci≠pi) (hlc:li≠ci) (hlp:li≠pi) (hlm:li < m)
  (hoc:ops[ci]? =some oc) (hop:ops[pi]? =some op) (hdc:oc.dst=some dc) (hdp:op.dst=some dp) (hdl:∃ol,ops[li]? =some ol/\ol.dst=some d1)
  (ho:op.op= .call { callee:=.builtin .append,args:=#[.tmp d1,.tmp dc],argTypes:=#[22,22] })
  (epc:dep ops pi ci=true) (epl:dep ops pi li=true) (hlv:lv li=v)
  (hrun:∀(a:Act) (w:World),(∀(j:Nat) (o':Oper) (d:Nat),j < m->ops[j]? =some o'->o'.dst=some d->dep ops ci j=true->j≠ci->j≠pi->a.eval (.tmp d)=lv j)->(execOp a.eval oc).run Tryz.prog w= .ok (.enter f argv) w)
  (vH:∀(i:Nat) (o:Oper),ops[i]? =some o->i < m->i≠ci->i≠pi->∀(a:Act) (w:World),w.cell? ⟨h,6,none⟩=some v->(∀t,(∀o'∈ops,o'.dst≠some t)->a.eval (.tmp t)=a0.eval (.tmp t))->
   (∀(j:Nat) (o':Oper) (d:Nat),j < m->ops[j]? =some o'->o'.dst=some d->dep ops i j=true->a.eval (.tmp d)=lv j)->(execOp a.eval o).run Tryz.prog w= .ok (.value (lv i)) w)
  (Sm:∀i,i < m->i≠ci->i≠pi->dep ops i ci=false/\dep ops i pi=false) (hcp2:dep ops ci pi=false/\dep ops ci ci=false)
  (hm2:ops.size=m+3) (amc:d5 < n) (agJ:d5≠dp) (htl:∃ti ot,ti < m/\ti≠ci/\ti≠pi/\ops[ti]? =some ot/\ot.dst=some tx/\lv ti= .pointer (some ⟨h,0,none⟩)) (ho5:ops[m]? =some { dst:=some d5,op:=.nilCheck (.tmp tx),type:=y5,pos:=p5,after:=Ye,guard:=none }) (abA:d6≠dp) (agI:d6 < n) (ho6:ops[m+1]? =some { dst:=some d6,op:=.fieldAddr 24 (.tmp d5) 6,type:=y6,pos:=p6,after:=UY,guard:=none }) (ho7:ops[m+2]? =some { dst:=none,op:=.store 22 (.tmp d6) (.tmp dp),type:=y7,pos:=p7,after:=UZ,guard:=none })
  (hr6:Region.ready .any ops (nU m ops.size)=[m]) (hr7:Region.ready .any ops ((nU m ops.size).setIfInBounds m true)=[m+1]) (hr8:Region.ready .any ops (((nU m ops.size).setIfInBounds m true).setIfInBounds (m+1) true)=[m+2]) (hr9:Region.ready .any ops ((((nU m ops.size).setIfInBounds m true).setIfInBounds (m+1) true).setIfInBounds (m+2) true)=[])
  (hK:aN w0 lo h v dx) (yz:ah w0 lo X v dx) (hzl:∀q,X q->q < w0.heap.size) (hc:w0.cell? ⟨h,6,none⟩=some v) (hf:w0.frozen? ⟨h,6,none⟩=false) (hne:h≠b) (Np:h < w0.heap.size) (hbl:b < lo) (hlo:lo<=w0.heap.size) (hlen:dx.length<=3*cK)
  (hD2:∀t,Calm lo (D t)) (hcall:Calls Tryz.prog f argv w0.drew (Jm b w0.drew B D))
  (hbad:∀(a:Act) (w':World) (c:List PanicEntry),a.defers=a0.defers->B c->Gr (·=b) w0 w'->Q (.panic c) a w')
  (hnext:∀(vals:Nat->Value) (w':World) (A:Option Addr) (c:Nat) (us:List Tr),D us w'->us.length<=cK->aN w' lo h (.slice A (dx ++ us).length c) (dx ++ us)->ah w' lo X (.slice A (dx ++ us).length c) (dx ++ us)->Gr (Wr b lo h) w0 w'->Gr (WX b v) w0 w'->
   Q .normal ((((bG vals (ops.toList.take m) 0 a0).put (some d5) (.pointer (some ⟨h,0,none⟩))).put (some d6) (.pointer (some ⟨h,6,none⟩))).put none undef) (w'.setCell ⟨h,6,none⟩ (.slice A (dx ++ us).length c))):
  (Code.region id ops true).wp Tryz.prog Q a0 w0:=by
 refine Lf (d0:=0) m ci pi li b lo h X n lv v dx f argv B D hB hn hin hcm hpm hcp hlc hlp hlm hoc hop hdc hdp hdl ho epc epl hlv hrun ?_ Sm hcp2 hK yz hzl Np hbl hlo hlen hD2 hcall hbad ?_
 ·intro i o hoi hi h1 h2 a w hgr hun hev
  exact vH i o hoi hi h1 h2 a w ((hgr.cell (p:=⟨h,6,none⟩) (by show h < _;omega) (by unfold Wr;show ¬(h=b\/(lo<=h/\h≠h));omega)).trans hc) hun hev
 ·intro vals a w A c us ha _ hsz _ hev abB hd1 Uy hk1 NM hgr eB
  have hfw:w.frozen? ⟨h,6,none⟩=false:=(World.frozen?_of_block (a:=⟨h,6,none⟩) (hgr.block h (by omega) (by unfold Wr;omega))).trans hf
  have hcw:w.cell? ⟨h,6,none⟩=some v:=(hgr.cell (p:=⟨h,6,none⟩) (by show h < _;omega) (by unfold Wr;show ¬(h=b\/(lo<=h/\h≠h));omega)).trans hc
  obtain ⟨ti,ot,t1,t2,t3,t4,t5,t6⟩:=htl
  have e2:ops.size - m=0+1+1+1:=by rw [hm2];exact Nat.add_sub_cancel_left ..
  rw [e2]
  refine o6 (i:=m) hr6 ho5 rfl (aY (AU _ _ _ _ _ _ _ _ ((hev ti ot tx t1 t4 t5 t2 t3).trans t6)) ?_)
  have q5:(a.put (some d5) (.pointer (some ⟨h,0,none⟩))).eval (.tmp d5)= .pointer (some ⟨h,0,none⟩):=oN _ _ _ (by omega)
  refine o6 (i:=m+1) hr7 ho6 rfl (aY (sZ _ _ _ _ _ _ _ h q5) ?_)
  refine o6 (i:=m+2) hr8 ho7 rfl ?_
  have q6:((a.put (some d5) (.pointer (some ⟨h,0,none⟩))).put (some d6) (.pointer (some ⟨h,6,none⟩))).eval (.tmp d6)= .pointer (some ⟨h,6,none⟩):=oN _ _ _ (by rw [Eu];omega)
  have q7:((a.put (some d5) (.pointer (some ⟨h,0,none⟩))).put (some d6) (.pointer (some ⟨h,6,none⟩))).eval (.tmp dp)= .slice A (dx ++ us).length c:=(eval_put_ne _ _ _ _ (by simpa using abA)).trans ((eval_put_ne _ _ _ _ (by simpa using agJ)).trans abB)
  refine tu _ _ _ _ _ _ _ h 6 v _ _ _ q6 q7 hcw hfw ?_
  refine sQ hr9 ?_
  have:=hnext vals w A c us hd1 Uy hk1 NM hgr eB
  rw [ha]
  exact this
abbrev eU:Tr:=.mk 0 0 0 [] [] 0 []
theorem AX (w:World) (F:Nat->Prop):nW w F eU [.int .i64 0,.int .i64 0,.int .i64 0,.string ⟨#[]⟩,.string ⟨#[]⟩,.int .i64 0,.slice none 0 0]:=by
 simp only [nW]
 exact ⟨none,0,[],rfl,⟨rfl,fun h=>absurd h (by simp)⟩,by simp only [bO]⟩
theorem bO.split {w:World} {F:Nat->Prop}:∀{ts us:List Tr} {xs:List Value},bO w F (ts ++ us) xs->∃a q,xs=a ++ q/\bO w F ts a/\bO w F us q
 |[],us,xs,h=>⟨[],xs,rfl,by simp only [bO],h⟩
 |t :: r,us,xs,h=>by
  simp only [List.cons_append,bO] at h
  obtain ⟨a,q,rfl,h2,h3⟩:=h
  obtain ⟨a2,q2,rfl,h4,h5⟩:=bO.split h3
  exact ⟨a ++ a2,q2,by rw [List.append_assoc],by simp only [bO];exact ⟨a,a2,rfl,h2,h4⟩,h5⟩
def fA (w:World) (g i:Nat) (v0 v1 v2 v3 v4 v5 v6:Value):World:=
 ((((((w.setCell ⟨g,i,none⟩ v0).setCell ⟨g,i+1,none⟩ v1).setCell ⟨g,i+2,none⟩ v2).setCell ⟨g,i+3,none⟩ v3).setCell ⟨g,i+4,none⟩ v4).setCell ⟨g,i+5,none⟩ v5).setCell ⟨g,i+6,none⟩ v6
theorem fQ {w0 w:World} {S:Nat->Prop} {g i:Nat} {v0 v1 v2 v3 v4 v5 v6:Value} (h:Gr S w0 w) (hg:w0.heap.size<=g\/S g):Gr S w0 (fA w g i v0 v1 v2 v3 v4 v5 v6):=
 (((((((h.setCell (p:=⟨g,_,none⟩) hg _).setCell (p:=⟨g,_,none⟩) hg _).setCell (p:=⟨g,_,none⟩) hg _).setCell (p:=⟨g,_,none⟩) hg _).setCell (p:=⟨g,_,none⟩) hg _).setCell (p:=⟨g,_,none⟩) hg _).setCell (p:=⟨g,_,none⟩) hg _)
theorem Lg {w:World} {lo g n c i:Nat} {xs:List Value} {u0 u1 u2 u3 u4 u5 u6 v0 v1 v2 v3 v4 v5 v6:Value} (h:w.ownsRow lo 24 7 (.slice (some ⟨g,0,none⟩) n c) n (xs ++ [u0,u1,u2,u3,u4,u5,u6])) (hi:xs.length=i):
  (fA w g i v0 v1 v2 v3 v4 v5 v6).ownsRow lo 24 7 (.slice (some ⟨g,0,none⟩) n c) n (xs ++ [v0,v1,v2,v3,v4,v5,v6]):=by
 have h0:=(h.stored i v0).1
 have h1:=(h0.stored (i+1) v1).1
 have h2:=(h1.stored (i+2) v2).1
 have h3:=(h2.stored (i+3) v3).1
 have h4:=(h3.stored (i+4) v4).1
 have h5:=(h4.stored (i+5) v5).1
 have h6:=(h5.stored (i+6) v6).1
 subst hi
 unfold fA
 simpa [List.set_append] using h6
theorem aN.put {w:World} {lo h g c:Nat} {dx us:List Tr} {k op m:Int} {p t:List UInt8} {a c2:Nat} {A:Option Addr} (hx:aN w lo h (.slice (some ⟨g,0,none⟩) (dx.length+1) c) (dx ++ [eU])) (h2:nW w (fun q=>lo<=q/\q≠g/\q≠h) (.mk k op m p t a us) (GG k op m p t a (.slice A us.length c2))):
  aN (fA w g (dx.length*7) (.int .i64 k) (.int .i64 op) (.int .i64 m) (.string (bs p)) (.string (bs t)) (.int .i64 a) (.slice A us.length c2)) lo h (.slice (some ⟨g,0,none⟩) (dx.length+1) c) (dx ++ [.mk k op m p t a us]):=by
 obtain ⟨h0,xs,h1,h3⟩:=hx
 obtain ⟨ya,yq,rfl,h4,h5⟩:=bO.split h3
 have hl:=bO.length h4
 simp only [bO] at h5
 obtain ⟨yb,ye,rfl,h6,rfl⟩:=h5
 have hyb:∃u0 u1 u2 u3 u4 u5 u6,yb=[u0,u1,u2,u3,u4,u5,u6]:=by
  simp only [nW] at h6
  obtain ⟨A,c,xs,rfl,_⟩:=h6
  exact ⟨_,_,_,_,_,_,_,rfl⟩
 obtain ⟨u0,u1,u2,u3,u4,u5,u6,rfl⟩:=hyb
 have hn:(dx ++ [eU]).length=dx.length+1:=by simp
 rw [hn] at h1
 simp only [List.append_nil] at h1
 have hw:=Lg (v0:=.int .i64 k) (v1:=.int .i64 op) (v2:=.int .i64 m) (v3:=.string (bs p)) (v4:=.string (bs t)) (v5:=.int .i64 a) (v6:=.slice A us.length c2) h1 hl
 have hgw:Gr (fun q=>q=g) w (fA w g (dx.length*7) (.int .i64 k) (.int .i64 op) (.int .i64 m) (.string (bs p)) (.string (bs t)) (.int .i64 a) (.slice A us.length c2)):=fQ (Gr.refl w) (.inr rfl)
 refine ⟨h0,ya ++ GG k op m p t a (.slice A us.length c2),by rw [show (dx ++ [Tr.mk k op m p t a us]).length=dx.length+1 by simp];exact hw,?_⟩
 refine bO.append (h4.gr hgw (fun q hq _ he=>hq.2.1 (by rw [show q=g from he];rfl)) (fun q _ hq=>hq)) (bO.single ?_)
 exact h2.gr hgw (fun q hq _ he=>hq.2.1 he) (fun q _ hq=>⟨hq.1,(by have:=hq.2.1;simp only [Value.ownBlock,ne_eq,Option.some.injEq];omega),hq.2.2⟩)
theorem aI.some_ {w:World} {lo n c:Nat} {A:Option Addr} {ks:List Tr} (h:aI w lo (.slice A n c) ks) (hn:0 < ks.length):∃g,A=some ⟨g,0,none⟩/\lo<=g/\g < w.heap.size/\(∀j,j < ks.length*7->∃u,w.cell? ⟨g,j,none⟩=some u)/\∀j,w.frozen? ⟨g,j,none⟩=false:=by
 obtain ⟨xs,h1,h2⟩:=h
 obtain ⟨g,cap,hv,_,_⟩:=h1.form hn
 injection hv with e1 e2 e3
 subst e1 e2 e3
 have hg:=h1.lt g rfl
 refine ⟨g,rfl,hg.1,hg.2,fun j hj=>?_,fun j=>h1.frozenAt j⟩
 have hl:j < xs.length:=by rw [h1.1];exact hj
 exact ⟨xs[j],(h1.cellAt j hj).trans (List.getElem?_eq_getElem hl)⟩
section
variable (ρ : Operand -> Value) (w : World) (dst : Option Tmp) (x : Operand) (ty : TypeId) (pos : String) (after : Array Edge)
theorem iD {Q:Exit->Act->World->Prop} {K:Act->World->Prop} (a:Act) (y:Operand) (g i:Nat) (k op m:Int) (p t:List UInt8) (at_ n c:Nat) (A:Option Addr) (hx:a.eval x= .pointer (some ⟨g,i,none⟩)) (hy:a.eval y= .agg #[.int .i64 k,.int .i64 op,.int .i64 m,.string (bs p),.string (bs t),.int .i64 at_,.slice A n c])
  (hc:∀j,j < 7->∃u,w.cell? ⟨g,i+j,none⟩=some u) (hf:∀j,w.frozen? ⟨g,j,none⟩=false)
  (hk:K (a.put none undef) (fA w g i (.int .i64 k) (.int .i64 op) (.int .i64 m) (.string (bs p)) (.string (bs t)) (.int .i64 at_) (.slice A n c))):({ dst:=none,op:=.store 24 x y,type:=ty,pos:=pos,after:=after,guard:=none }:Oper).wp Tryz.prog a w K Q:=by
 obtain ⟨c0,hc0⟩:=hc 0 (by omega)
 obtain ⟨c1,hc1⟩:=hc 1 (by omega)
 obtain ⟨c2,hc2⟩:=hc 2 (by omega)
 obtain ⟨c3,hc3⟩:=hc 3 (by omega)
 obtain ⟨c4,hc4⟩:=hc 4 (by omega)
 obtain ⟨c5,Yf⟩:=hc 5 (by omega)
 obtain ⟨c6,hc6⟩:=hc 6 (by omega)
 rw [Nat.add_zero] at hc0
 have:(execOp a.eval { dst:=none,op:=.store 24 x y,type:=ty,pos:=pos,after:=after,guard:=none }).run Tryz.prog w= .ok .skip (fA w g i (.int .i64 k) (.int .i64 op) (.int .i64 m) (.string (bs p)) (.string (bs t)) (.int .i64 at_) (.slice A n c)):=by
  clear hc hk
  unfold execOp fA;simp only [hx,hy];go_simp
 unfold Oper.wp
 rw [this]
 exact hk
end
theorem ag.jC {w:World} {g:Nat} {t:TypeId} {u0 u1 u2 u3 u4 u5 u6:Value} (h:ag w g t #[u0,u1,u2,u3,u4,u5,u6]) (v:Value):ag (w.setCell ⟨g,6,none⟩ v) g t #[u0,u1,u2,u3,u4,u5,v]:=by
 have:=h.ny 6 v
 simpa using this
structure JB (b:Nat) (w0:World) (h lo:Nat) (dx:List Tr) (c0 c1 c2 c3 c4 c5 v:Value) (C:World->Prop) (D:Tr->World->Prop) (c z a i s k:Bool) (vc vz va vi:Value) (w:World):Prop where
 d1:a=true->c=true/\z=true
 d2:i=true->a=true
 d3:s=true->i=true
 d4:k=true->a=true
 gr:Gr (fun q=>q=b\/q=h\/lo<=q) w0 w
 gb:k=false->Gr (Wr b lo h) w0 w
 g1:a=false->Gr (·=b) w0 w
 q0:c=false->C w/\Gr (fun _=>False) w0 w
 q1:c=true->a=false->∃(k op n:Int) (p t:List UInt8) (at_:Nat) (ks:List Tr) (A:Option Addr) (cc:Nat),vc= .agg #[.int .i64 k,.int .i64 op,.int .i64 n,.string (bs p),.string (bs t),.int .i64 at_,.slice A ks.length cc]/\aI w w0.heap.size (.slice A ks.length cc) ks/\D (.mk k op n p t at_ ks) w
 z1:z=true->a=false->∃q,vz= .slice (some ⟨q,0,none⟩) 1 1/\aI w w0.heap.size (.slice (some ⟨q,0,none⟩) 1 1) [eU]
 a1:a=true->s=false->∃(k op n:Int) (p t:List UInt8) (at_:Nat) (ks:List Tr) (A:Option Addr) (cc g ca:Nat),vc= .agg #[.int .i64 k,.int .i64 op,.int .i64 n,.string (bs p),.string (bs t),.int .i64 at_,.slice A ks.length cc]/\va= .slice (some ⟨g,0,none⟩) (dx.length+1) ca/\aN w lo h (.slice (some ⟨g,0,none⟩) (dx.length+1) ca) (dx ++ [eU])/\
  nW w (fun q=>lo<=q/\q≠g/\q≠h) (.mk k op n p t at_ ks) (GG k op n p t at_ (.slice A ks.length cc))/\D (.mk k op n p t at_ ks) w
 a2:s=true->∃t g ca,va= .slice (some ⟨g,0,none⟩) (dx.length+1) ca/\aN w lo h (.slice (some ⟨g,0,none⟩) (dx.length+1) ca) (dx ++ [t])/\D t w
 i1:i=true->∀g n ca,va= .slice (some ⟨g,0,none⟩) n ca->vi= .pointer (some ⟨g,dx.length*7,none⟩)
 k1:k=true->ag w h 24 #[c0,c1,c2,c3,c4,c5,va]
def Lh (m b h:Nat) (v:Value) (n i:Nat):Value:=match m with
 |11=>(match i with|0=>.pointer (some ⟨h,6,none⟩)|1=>v|2=>.pointer (some ⟨b,0,none⟩)|4=>.int .i64 n|9=>.pointer (some ⟨h,6,none⟩)|_=>undef)
 |_=>(match i with|0=>.pointer (some ⟨h,0,none⟩)|1=>.pointer (some ⟨h,0,none⟩)|2=>.pointer (some ⟨h,6,none⟩)|3=>v|4=>.pointer (some ⟨b,0,none⟩)|6=>.int .i64 n|11=>.pointer (some ⟨h,0,none⟩)|12=>.pointer (some ⟨h,6,none⟩)|_=>undef)
theorem vI {P:Program} {ops:Array Oper} {Q:Exit->Act->World->Prop} {S:World->Prop} {n i:Nat} {L:Array Bool} {a:Act} {w:World} {o:Oper} (hr:Region.ready .any ops L=[i]) (ho:ops[i]? =some o) (hg:o.guard=none)
  (h:o.wp P a w (fun a' w'=>S w'/\wpAnyH P .any ops Q S n (L.setIfInBounds i true) a' w') Q):wpAnyH P .any ops Q S (n+1) L a w:=by
 refine wpAnyH_all hr (by simp) fun j hj=>?_
 obtain rfl:j=i:=by simpa using hj
 unfold wpOp
 have hw:Region.wanted o (yielded ops a.tmps)=true:=by simp [Region.wanted,hg]
 simp only [ho,hw,if_true]
 exact .inl h
theorem qO {P:Program} {ops:Array Oper} {Q:Exit->Act->World->Prop} {S:World->Prop} {n:Nat} {L:Array Bool} {a:Act} {w:World} {o:Oper} (i:Nat) (h:o.wp P a w (fun a' w'=>S w'/\wpAnyH P .any ops Q S n (L.setIfInBounds i true) a' w') Q)
  (hr:Region.ready .any ops L=[i]:=by kernel_rfl) (ho:ops[i]? =some o:=by rfl) (hg:o.guard=none:=by rfl):wpAnyH P .any ops Q S (n+1) L a w:=vI hr ho hg h
theorem oI {P:Program} {ops:Array Oper} {Q:Exit->Act->World->Prop} {S:World->Prop} {n:Nat} {L:Array Bool} {a:Act} {w:World} {o:Oper} (i:Nat) (ho:ops[i]? =some o) (h:o.wp P a w (fun a' w'=>S w'/\wpAnyH P .any ops Q S n (L.setIfInBounds i true) a' w') Q)
  (hr:Region.ready .any ops L=[i]:=by kernel_rfl) (hg:o.guard=none:=by rfl):wpAnyH P .any ops Q S (n+1) L a w:=vI hr ho hg h
def C0 (n:Nat) (f:FuncId) (nt:NT):Prop:=∀(E:Env) (w:World) (l:List T) (o:Nat) (g:Tr->List T->R) (r:R),PS E w l o->bnd (go n nt l o) g=r->r≠.out->
 Calls Tryz.prog f #[.pointer (some ⟨E.b,0,none⟩)] w (CZ E w w.heap.size o g r)
def C1 (n:Nat) (f:FuncId) (k:Int) (nt:NT):Prop:=∀(E:Env) (w:World) (l:List T) (o:Nat) (g:Tr->List T->R) (r:R),PS E w l o->bnd (go n nt l o) g=r->r≠.out->
 Calls Tryz.prog f #[.pointer (some ⟨E.b,0,none⟩),.int .i64 k] w (CZ E w w.heap.size o g r)
def C0m (n:Nat) (f:FuncId) (nt:NT):Prop:=∀(E:Env) (w:World) (l:List T) (o:Nat) (g:Tr->List T->R) (r:R),mark l≠[]->PS E w l o->bnd (go n nt l o) g=r->r≠.out->
 Calls Tryz.prog f #[.pointer (some ⟨E.b,0,none⟩)] w (CZ E w w.heap.size o g r)
def C1m (n:Nat) (f:FuncId) (k:Int) (nt:NT):Prop:=∀(E:Env) (w:World) (l:List T) (o:Nat) (g:Tr->List T->R) (r:R),mark l≠[]->PS E w l o->bnd (go n nt l o) g=r->r≠.out->
 Calls Tryz.prog f #[.pointer (some ⟨E.b,0,none⟩),.int .i64 k] w (CZ E w w.heap.size o g r)
def ZJ (E:Env) (w:World) (lo:Nat) (X:Nat->Prop) (o:Nat) (f:Tr->List T->R) (r:R) (e:Ending) (w':World):Prop:=
 Gr (·=E.b) w w'/\((∃a k,r= .bad a k/\e=(.panicked [{ v:=.iface 38 (.agg #[.int .i64 a,.int .i64 k]),recovered:=false }]))\/∃(k op n:Int) (p t:List UInt8) (a:Nat) (ks:List Tr) (A:Option Addr) (c:Nat) (l:List T),
  e= .returned (.agg #[.int .i64 k,.int .i64 op,.int .i64 n,.string (bs p),.string (bs t),.int .i64 a,.slice A ks.length c])/\f (.mk k op n p t a ks) l=r/\ah w' lo X (.slice A ks.length c) ks/\ks.length<=3*cK/\PS E w' l o)
def CT (n:Nat) (f:FuncId) (nt:Tr->NT):Prop:=∀(E:Env) (w:World) (l:List T) (o lo:Nat) (X:Nat->Prop) (g:Tr->List T->R) (r:R) (k op m:Int) (p t:List UInt8) (a:Nat) (ks:List Tr) (A:Option Addr) (c:Nat),PS E w l o->
 E.b < lo->E.g < lo->lo<=w.heap.size->(∀q,X q->q < w.heap.size)->ah w lo X (.slice A ks.length c) ks->bnd (go n (nt (.mk k op m p t a ks)) l o) g=r->r≠.out->
 Calls Tryz.prog f #[.pointer (some ⟨E.b,0,none⟩),.agg #[.int .i64 k,.int .i64 op,.int .i64 m,.string (bs p),.string (bs t),.int .i64 a,.slice A ks.length c]] w (ZJ E w lo X o g r)
def CC (n:Nat):Prop:=∀(E:Env) (w:World) (l:List T) (o lo:Nat) (X:Nat->Prop) (g:Tr->List T->R) (r:R) (k op m:Int) (p t:List UInt8) (a:Nat) (ks:List Tr) (A:Option Addr) (c:Nat),PS E w l o->
 E.b < lo->E.g < lo->lo<=w.heap.size->(∀q,X q->q < w.heap.size)->ah w lo X (.slice A ks.length c) ks->bnd (go n (.call (.mk k op m p t a ks) .expr) l o) g=r->r≠.out->
 Calls Tryz.prog 127 #[.pointer (some ⟨E.b,0,none⟩),.agg #[.int .i64 k,.int .i64 op,.int .i64 m,.string (bs p),.string (bs t),.int .i64 a,.slice A ks.length c],.func (Fn.func 62) #[.pointer (some ⟨E.b,0,none⟩)] #[]] w (ZJ E w lo X o g r)
def Pt.fn:Pt->Nat
 | .expr=>62| .key=>136| .param=>71| .typeOf=>88| .lY=>69| .field=>63| .sig=>64
def adf (E:Env) (w:World) (lo h o:Nat) (g:Tr->List T->R) (r:R) (k op m:Int) (pk t:List UInt8) (a:Nat) (ks:List Tr) (e:Ending) (w':World):Prop:=
 Gr (fun k=>k=E.b\/k=h\/lo<=k) w w'/\((∃a k,r= .bad a k/\e=(.panicked [{ v:=.iface 38 (.agg #[.int .i64 a,.int .i64 k]),recovered:=false }]))\/
  ∃(m2:Int) (bN:List Tr) (A2:Option Addr) (c2:Nat) (l':List T),e= .returned (.tuple #[])/\g (.mk 0 0 m2 [] [] 0 bN) l'=r/\PS E w' l' o/\bN.length<=cK+1/\
   aI w' lo (.slice A2 (ks ++ bN).length c2) (ks ++ bN)/\ag w' h 24 (N7 k op (if m2=1 then 1 else m) (bs pk) (bs t) a (.slice A2 (ks ++ bN).length c2)))
def CH (n:Nat) (p:Pt):Prop:=∀(E:Env) (w:World) (l:List T) (o lo h:Nat) (g:Tr->List T->R) (r:R) (k op m:Int) (pk t:List UInt8) (a:Nat) (ks:List Tr) (A:Option Addr) (c:Nat) (fv:Value),fv= .func (Fn.func p.fn) #[.pointer (some ⟨E.b,0,none⟩)] #[]->PS E w l o->
 E.b < lo->E.g < lo->h < lo->h≠E.b->h≠E.g->lo<=w.heap.size->ks.length<=cK->ag w h 24 (N7 k op m (bs pk) (bs t) a (.slice A ks.length c))->aI w lo (.slice A ks.length c) ks->
 bnd (go n (.head p) l o) g=r->r≠.out->
 Calls Tryz.prog 70 #[.pointer (some ⟨E.b,0,none⟩),.pointer (some ⟨h,0,none⟩),fv] w (adf E w lo h o g r k op m pk t a ks)
def CW (n:Nat) (p:Pt):Prop:=∀(E:Env) (w:World) (l:List T) (o:Nat) (a c:List UInt8) (s1 s2:ByteArray) (g:Tr->List T->R) (r:R) (fv:Value),fv= .func (Fn.func p.fn) #[.pointer (some ⟨E.b,0,none⟩)] #[]->PS E w l o->s1=bs a->s2=bs c->a≠[]->c≠[]->bnd (go n (.within a c p) l o) g=r->r≠.out->
 Calls Tryz.prog 91 #[.pointer (some ⟨E.b,0,none⟩),.string s1,.string s2,fv] w (UW E w o g r)
def CL (n:Nat) (p:Pt):Prop:=∀(E:Env) (w:World) (l:List T) (o:Nat) (g:Tr->List T->R) (r:R) (fv:Value),fv= .func (Fn.func p.fn) #[.pointer (some ⟨E.b,0,none⟩)] #[]->PS E w l o->bnd (go n (.list p) l o) g=r->r≠.out->
 Calls Tryz.prog 68 #[.pointer (some ⟨E.b,0,none⟩),fv] w (UW E w o g r)
structure ku (n:Nat):Prop where
 expr:C0 n 62 .expr
 binary:∀k:Nat,1<=k->k<=6->C1 n 89 k (.binary k)
 unary:C0 n 105 .unary
 oq:C0 n 125 .oq
 key:C0 n 136 .key
 within:∀p,CW n p
 list:∀p,CL n p
 call:CC n
 indexed:CT n 128 .indexed
 lZ:CT n 129 .lZ
 first:C0 n 126 .first
 jW:C0 n 138 .jW
 jB:C0 n 142 .jB
 iT:C0 n 143 .iT
 iU:C0 n 144 .iU
 kR:C0m n 145 .kR
 block:C0 n 72 .block
 stat:C0 n 93 .stat
 branch:C0 n 107 .branch
 otherwise:C0 n 131 .otherwise
 loop:C0 n 108 .loop
 nD:C0 n 110 .nD
 define:C0 n 112 .define
 simple:C0 n 113 .simple
 dh:C0 n 42 .dh
 named:∀k:Int,C1 n 61 k (.named k)
 param:C0 n 71 .param
 typeOf:C0 n 88 .typeOf
 typeName:C0 n 90 .typeName
 head:∀p,CH n p
 decl:C0 n 22 .decl
 constant:C0 n 41 .constant
 kT:C0 n 43 .kT
 field:C0 n 63 .field
 sig:C0 n 64 .sig
 kU:C0 n 44 .kU
 receiver:C0 n 67 .receiver
 lY:C0 n 69 .lY
 leap:∀k:Int,C1m n 109 k (.leap k)
theorem aI.call {w w':World} {lo b:Nat} {v:Value} {ks:List Tr} (h:aI w lo v ks) (hg:Gr (·=b) w w') (hb:b < lo):aI w' lo v ks:=h.gr hg fun g h1 _ h2=>by have:g=b:=h2;omega
theorem aI.aC {w w':World} {lo:Nat} {v:Value} {ks:List Tr} (h:aI w lo v ks) (hb:Below w.heap.size w w'):aI w' lo v ks:=h.gr (Gr.of_below hb (S:=fun _=>False)) (fun _ _ _ h=>h)
theorem ag.aC {w w':World} {g:Nat} {t:TypeId} {cs:Array Value} (h:ag w g t cs) (hb:Below w.heap.size w w'):ag w' g t cs:=h.below hb h.lt
theorem ag.call {w w':World} {g b:Nat} {t:TypeId} {cs:Array Value} (h:ag w g t cs) (hg:Gr (·=b) w w') (hb:g≠b):ag w' g t cs:=h.gr hg hb
theorem bC {l m:List UInt8} (h:¬l=m):((bs l).toList == m)=false:=by rw [iC];simpa using h
theorem o7 {w w3 w':World} {b lo hh:Nat} (h:Gr (·=b) w w3) (h4:Gr (Wr b lo hh) w3 w') (hl:w.heap.size<=lo):Gr (·=b) w w':=h.wide h4 fun n hn hs=>by
 rcases hs with hs|hs
 ·exact hs
 ·omega
theorem ag.wr {w w':World} {g b lo hh:Nat} {t:TypeId} {cs:Array Value} (h:ag w g t cs) (hg:Gr (Wr b lo hh) w w') (h1:g≠b) (h2:g < lo\/g=hh):ag w' g t cs:=h.gr hg (by unfold Wr;omega)
theorem ag.abC {w:World} {g:Nat} {t:TypeId} {u0 u1 u2 u3 u4 u5 u6:Value} (h:ag w g t #[u0,u1,u2,u3,u4,u5,u6]) (v:Value):ag (w.setCell ⟨g,3,none⟩ v) g t #[u0,u1,u2,v,u4,u5,u6]:=by
 have:=h.ny 3 v
 simpa using this
theorem ag.YH {w:World} {g:Nat} {t:TypeId} {u0 u1 u2 u3 u4 u5 u6:Value} (h:ag w g t #[u0,u1,u2,u3,u4,u5,u6]) (v:Value):ag (w.setCell ⟨g,5,none⟩ v) g t #[u0,u1,u2,u3,u4,v,u6]:=by
 have:=h.ny 5 v
 simpa using this
theorem ag.set0 {w:World} {g:Nat} {t:TypeId} {u0 u1 u2 u3 u4 u5 u6:Value} (h:ag w g t #[u0,u1,u2,u3,u4,u5,u6]) (v:Value):ag (w.setCell ⟨g,0,none⟩ v) g t #[v,u1,u2,u3,u4,u5,u6]:=by
 have:=h.ny 0 v
 simpa using this
theorem ag.U2 {w:World} {g:Nat} {t:TypeId} {cs:Array Value} (h:g=w.heap.size):ag (w.alloc (.cells cs t)) g t cs:=by subst h;exact ag.new _ _ _
theorem aI.lI {w:World} {lo:Nat} {k op m:Int} {p t:List UInt8} {a c:Nat} {A:Option Addr} {ks:List Tr} (h:aI w lo (.slice A ks.length c) ks) (hl:lo<=w.heap.size):
  aI (w.alloc (.cells #[.int .i64 k,.int .i64 op,.int .i64 m,.string (bs p),.string (bs t),.int .i64 a,.slice A ks.length c] 24)) lo (.slice (some ⟨w.heap.size,0,none⟩) 1 1) [.mk k op m p t a ks]:=
 aI.lit (n:=1) (bO.single (h.rep k op m p t a)) hl (by simp [maxLen]) rfl
theorem aI.abD {w:World} {lo:Nat} {k op m k' op' m':Int} {p t p' t':List UInt8} {a c a' c':Nat} {A A':Option Addr} {ks ks':List Tr} (h:aI w lo (.slice A ks.length c) ks) (h':aI w lo (.slice A' ks'.length c') ks') (hl:lo<=w.heap.size):
  aI (w.alloc (.cells #[.int .i64 k,.int .i64 op,.int .i64 m,.string (bs p),.string (bs t),.int .i64 a,.slice A ks.length c,.int .i64 k',.int .i64 op',.int .i64 m',.string (bs p'),.string (bs t'),.int .i64 a',.slice A' ks'.length c'] 24)) lo (.slice (some ⟨w.heap.size,0,none⟩) 2 2) [.mk k op m p t a ks,.mk k' op' m' p' t' a' ks']:=
 aI.lit (n:=2) (cs:=#[.int .i64 k,.int .i64 op,.int .i64 m,.string (bs p),.string (bs t),.int .i64 a,.slice A ks.length c,.int .i64 k',.int .i64 op',.int .i64 m',.string (bs p'),.string (bs t'),.int .i64 a',.slice A' ks'.length c']) (bO.append (bO.single (h.rep k op m p t a)) (bO.single (h'.rep k' op' m' p' t' a'))) hl (by simp [maxLen]) rfl
theorem ag.GH {w:World} {g:Nat} {t:TypeId} {u0 u1 u2 u3 u4 u5 u6:Value} (h:ag w g t #[u0,u1,u2,u3,u4,u5,u6]) (v:Value):ag (w.setCell ⟨g,4,none⟩ v) g t #[u0,u1,u2,u3,v,u5,u6]:=by
 have:=h.ny 4 v
 simpa using this
theorem ag.set2 {w:World} {g:Nat} {t:TypeId} {u0 u1 u2 u3 u4 u5 u6:Value} (h:ag w g t #[u0,u1,u2,u3,u4,u5,u6]) (v:Value):ag (w.setCell ⟨g,2,none⟩ v) g t #[u0,u1,v,u3,u4,u5,u6]:=by
 have:=h.ny 2 v
 simpa using this
theorem aX {fn:Func} {p:Tmp} {R:Ending->World->Prop} {a:Act} {w:World} {z:Nat} {v0 v1 v2 v3 v4 v5 v6:Value} (h:fn.results=#[.cell p 24]) (hp:a.tmps.getD p undef= .pointer (some ⟨z,0,none⟩)) (hd:a.defers=[])
  (hb:ag w z 24 #[v0,v1,v2,v3,v4,v5,v6]) (hR:R (.returned (.agg #[v0,v1,v2,v3,v4,v5,v6])) w):bodyPost Tryz.prog fn R .ret a w:=
 bodyPost_ret (results_cell_row h a.tmps w z _ _ (0,0) _ hp hb Tryz.underlying24 rfl (by kernel_rfl)) hd hR
theorem oV (E:Env) (lo:Nat) (l:List T) (o:Nat) (hb:E.b < lo) (hg:E.g < lo):Calm lo fun w=>PS E w l o:=fun w w' h hgr=>h.gr hgr (by omega) (by omega)
def wG (E:Env) (o:Nat) (g:Tr->List T->R) (r:R) (t:Tr) (w:World):Prop:=∃l,g t l=r/\PS E w l o
def oO (r:R) (c:List PanicEntry):Prop:=∃(a:Nat) (k:Int),r= .bad a k/\c=[{ v:=.iface 38 (.agg #[.int .i64 a,.int .i64 k]),recovered:=false }]
theorem aZ (E:Env) (lo o:Nat) (g:Tr->List T->R) (r:R) (hb:E.b < lo) (hg:E.g < lo) (t:Tr):Calm lo (wG E o g r t):=fun w w' h hgr=>by
 obtain ⟨l,h1,h2⟩:=h
 exact ⟨l,h1,oV E lo l o hb hg _ _ h2 hgr⟩
theorem tells {E:Env} {w w':World} {o:Nat} {g:Tr->List T->R} {r:R} {e:Ending} (h:CZ E w w.heap.size o g r e w'):Ij E.b w (oO r) (wG E o g r) e w':=by
 obtain ⟨h1,⟨a,k,h2,h3⟩|⟨k,op,n,p,t,a,ks,A,c,l,h2,h3,h4,_,h6⟩⟩:=h
 ·exact ⟨h1,.inl ⟨_,⟨a,k,h2,rfl⟩,h3⟩⟩
 ·exact ⟨h1,.inr ⟨k,op,n,p,t,a,ks,A,c,h2,h4,l,h3,h6⟩⟩
theorem sF {P:Program} {o:Oper} {a:Act} {w:World} {K:Act->World->Prop} {Q:Exit->Act->World->Prop} (v:Value) (h:(execOp a.eval o).run P w= .ok (.value v) w) (hk:K (a.put o.dst v) w):o.wp P a w K Q:=aY h hk
theorem Gr.one {w w':World} {z b:Nat} (h:Gr (·=z) w w') {w0:World} (h0:Gr (·=b) w0 w) (hz:w0.heap.size<=z):Gr (·=b) w0 w':=h0.wide h fun n hn hs=>by
 have:n=z:=hs
 omega
theorem aI.one {w w':World} {z lo:Nat} {v:Value} {ks:List Tr} (h:aI w lo v ks) (hg:Gr (·=z) w w') (hz:z < lo):aI w' lo v ks:=h.gr hg fun g h1 _ h2=>by
 have:g=z:=h2
 omega
theorem PS.one {E:Env} {w w':World} {z o:Nat} {l:List T} (h:PS E w l o) (hg:Gr (·=z) w w') (h1:E.b≠z) (h2:E.g≠z):PS E w' l o:=h.gr hg h1 h2
theorem Ci {Q:Exit->Act->World->Prop} {K:Act->World->Prop} {w:World} {a:Act} {ty:TypeId} {pos:String} {after:Array Edge} (x y:Operand) {z:Nat} {u0 u1 u2 u3 u4 u5 u6:Value} (k op m:Int) (p t:List UInt8) (at_ n c:Nat) (A:Option Addr)
  (hx:a.eval x= .pointer (some ⟨z,0,none⟩)) (hy:a.eval y= .agg #[.int .i64 k,.int .i64 op,.int .i64 m,.string (bs p),.string (bs t),.int .i64 at_,.slice A n c]) (hb:ag w z 24 #[u0,u1,u2,u3,u4,u5,u6])
  (hk:∀w',ag w' z 24 (N7 k op m (bs p) (bs t) at_ (.slice A n c))->Gr (·=z) w w'->K (a.put none undef) w'):
  ({ dst:=none,op:=.store 24 x y,type:=ty,pos:=pos,after:=after,guard:=none }:Oper).wp Tryz.prog a w K Q:=by
 refine iD _ _ _ _ _ _ _ z 0 k op m p t at_ n c A hx hy (fun j hj=>?_) hb.frozen (hk _ ?_ (fQ (Gr.refl w) (.inr rfl)))
 ·rw [Nat.zero_add]
  obtain ⟨_,s0,s1,s2,s3,s4,s5,s6,_⟩:=hb.av
  rcases (show j=0\/j=1\/j=2\/j=3\/j=4\/j=5\/j=6 by omega) with rfl|rfl|rfl|rfl|rfl|rfl|rfl
  ·exact ⟨_,s0⟩
  ·exact ⟨_,s1⟩
  ·exact ⟨_,s2⟩
  ·exact ⟨_,s3⟩
  ·exact ⟨_,s4⟩
  ·exact ⟨_,s5⟩
  ·exact ⟨_,s6⟩
 ·have:=hb.seven (.int .i64 k) (.int .i64 op) (.int .i64 m) (.string (bs p)) (.string (bs t)) (.int .i64 at_) (.slice A n c)
  unfold fA
  simp only [Nat.zero_add]
  exact this
theorem aI.oW {w:World} {lo g:Nat} {k op m:Int} {p t:List UInt8} {a c:Nat} {A:Option Addr} {ks:List Tr} (h:aI w lo (.slice A ks.length c) ks) (hl:lo<=w.heap.size) (hg:g=w.heap.size):
  aI (w.alloc (.cells #[.int .i64 k,.int .i64 op,.int .i64 m,.string (bs p),.string (bs t),.int .i64 a,.slice A ks.length c] 24)) lo (.slice (some ⟨g,0,none⟩) 1 1) [.mk k op m p t a ks]:=by
 subst hg
 exact aI.lI h hl
theorem bz {w:World} {g:Nat} {t:TypeId} {cs:Array Value} (h:ag w g t cs:=by repeat (with_reducible (first|assumption|exact ag.new _ _ _|exact ag.U2 (by simp;done)|apply ag.set0|apply ag.set2|apply ag.abC|apply ag.GH|apply ag.YH|apply ag.jC|refine ag.alloc ?_ _|refine ag.drew ?_|refine ag.far ?_ (by first|assumption|(simp;done)|(simp;omega)) _))):ag w g t cs:=h
theorem dS {w:World} {g:Nat} {t:TypeId} {cs:Array Value} (h:ag w g t cs:=by repeat (first|(with_reducible (first|assumption|exact ag.new _ _ _|refine ag.alloc ?_ _|refine ag.drew ?_|refine ag.far ?_ (by first|assumption|(simp;done)|(simp;omega)) _))|apply ag.seven)):ag w g t cs:=h
theorem oZ {w:World} {lo b:Nat} {v:Value} {ks:List Tr} (h:aN w lo b v ks:=by repeat (first|(with_reducible (first|assumption|exact aI.nil _ _ 0|refine aI.fresh ?_ (by first|rfl|(simp;done)) _|refine aN.alloc ?_ _|refine aN.drew ?_|refine aN.setCell ?_ (by first|exact .inr rfl|(left;assumption)|(left;simp;done)|(left;simp;omega)) _|refine aI.alloc ?_ _|refine aI.drew ?_|refine aI.setCell ?_ (by first|assumption|(simp;done)|(simp;omega)) _))|exact aI.nil _ _ 0|exact aN.set2 (by assumption) (by assumption) rfl _)):aN w lo b v ks:=h
theorem nR {w:World} {lo:Nat} {X:Nat->Prop} {v:Value} {ks:List Tr} (h:ah w lo X v ks:=by repeat (first|(with_reducible (first|assumption|refine ah.alloc ?_ _|refine ah.drew ?_|refine ah.setCell ?_ (by first|exact .inr rfl|exact .inr (.inr rfl)|(left;assumption)|(left;simp;done)|(left;simp;omega)) _))|exact aN.set2 (by assumption) (by assumption) rfl _)):ah w lo X v ks:=h
theorem nS {w:World} {lo:Nat} {v:Value} {ks:List Tr} (h:aI w lo v ks:=by repeat (first|(with_reducible (first|assumption|exact aI.nil _ _ 0|refine aI.alloc ?_ _|refine aI.drew ?_|refine aI.setCell ?_ (by first|assumption|(simp;done)|(simp;omega)) _))|exact aI.nil _ _ 0)):aI w lo v ks:=h
theorem aD {w0 w w':World} {g b:Nat} {t:TypeId} {cs:Array Value} (h0:ag w0 g t cs) (hg:Gr (·=b) w w') (h:ag w g t cs:=by exact bz) (hb:g≠b:=by omega):ag w' g t cs:=h.gr hg hb
theorem bV {w0 w w':World} {g:Nat} {t:TypeId} {cs:Array Value} (h0:ag w0 g t cs) (hg:Below w.heap.size w w') (h:ag w g t cs:=by exact bz):ag w' g t cs:=h.below hg h.lt
theorem aL {S:Nat->Prop} {w w0 w1 w':World} (h0:Gr S w w0) (hg:Below w1.heap.size w1 w') (h:Gr S w w1:=by exact aJ):Gr S w w':=h.trans (Gr.of_below hg)
theorem bP {S S':Nat->Prop} {w w0 w1 w':World} (h0:Gr S w w0) (hg:Gr S' w1 w') (h:Gr S w w1:=by exact aJ) (hs:∀k,k < w1.heap.size->S' k->S k:=by exact fun _ _ e=>e):Gr S w w':=h.trans (Gr.mono hg hs)
theorem nV {S S':Nat->Prop} {w w0 w1 w':World} (h0:Gr S w w0) (hg:Gr S' w1 w') (h:Gr S w w1:=by exact aJ) (hs:∀k,k < w1.heap.size->S' k->S k:=by exact fun _ _ e=>.inl e):Gr S w w':=h.trans (Gr.mono hg hs)
theorem bQ {S:Nat->Prop} {w w0 w1 w':World} (h0:Gr S w w0) (hg:Gr S w1 w') (h:Gr S w w1:=by exact aJ):Gr S w w':=h.trans hg
theorem NN {E:Env} {w0 w w':World} {l:List T} {o:Nat} (h0:PS E w0 l o) (hg:Below w.heap.size w w') (h:PS E w l o:=by exact aO):PS E w' l o:=PS.below h hg
theorem dU {w0 w w':World} {lo b:Nat} {X:Nat->Prop} {v:Value} {ks:List Tr} (h0:ah w0 lo X v ks) (hg:Gr (·=b) w w') (h:ah w lo X v ks:=by exact nR) (hb:b < lo:=by omega):ah w' lo X v ks:=ah.call h hg hb
theorem mR {w0 w w':World} {lo:Nat} {X:Nat->Prop} {v:Value} {ks:List Tr} (h0:ah w0 lo X v ks) (hg:Below w.heap.size w w') (h:ah w lo X v ks:=by exact nR):ah w' lo X v ks:=ah.aC h hg
theorem YI {w0 w w':World} {lo b:Nat} {v:Value} {ks:List Tr} (h0:aI w0 lo v ks) (hg:Gr (·=b) w w') (h:aI w lo v ks:=by exact nS) (hb:b < lo:=by omega):aI w' lo v ks:=aI.call h hg hb
theorem aP {W V:World} {g:Nat} {t:TypeId} {cs:Array Value} (e:W=V) (h:ag W g t cs):ag V g t cs:=e▸h
theorem bK {S:Nat->Prop} {w W V:World} (e:W=V) (h:Gr S w W):Gr S w V:=e▸h
theorem ko {W V:World} {lo:Nat} {X:Nat->Prop} {v:Value} {ks:List Tr} (e:W=V) (h:ah W lo X v ks):ah V lo X v ks:=e▸h
theorem bU {w w':World} {g b:Nat} {t:TypeId} {cs:Array Value} (hg:Gr (·=b) w w') (h:ag w g t cs:=by exact bz) (hb:g≠b:=by omega):ag w' g t cs:=h.gr hg hb
theorem vJ {w w':World} {lo b:Nat} {X:Nat->Prop} {v:Value} {ks:List Tr} (hg:Gr (·=b) w w') (h:ah w lo X v ks:=by exact nR) (hb:b < lo:=by omega):ah w' lo X v ks:=ah.call h hg hb
theorem rO {w w':World} {lo x b:Nat} {v:Value} {ks:List Tr} (hg:Gr (·=b) w w') (h:aN w lo x v ks:=by exact oZ) (hb:b < lo:=by omega):aN w' lo x v ks:=aN.call h hg hb
theorem o8 {S:Nat->Prop} {w1 w':World} (w:World) (hg:Gr S w1 w') (h:Gr S w w1:=by exact aJ):Gr S w w':=h.trans hg
theorem gX {w1 w':World} (b:Nat) (w:World) (hg:Below w1.heap.size w1 w') (h:Gr (·=b) w w1:=by exact aJ):Gr (·=b) w w':=h.trans (Gr.of_below hg)
theorem iG {d d2:List Deferred} {G R:Prop} {A B:Type} {p q:A->B->Prop} {x:A} {y:B} (hg:G) (hb:p x y) (hd:d=d2:=by exact rfl) (he:q x y:=by exact rfl):d=d2/\G/\((∃x y,p x y/\q x y)\/R):=⟨hd,hg,.inl ⟨x,y,hb,he⟩⟩
theorem Qv (p q r:Addr) (w:World):
  CallsD Tryz.prog 10 #[.pointer (some p),.pointer (some q),.pointer (some r)] .returning w fun e u' w'=>e= .returned (.tuple #[])/\u'= .returning/\w'=w:=by
 refine callsD_of_wpS Tryz.func10 rfl fun c₀ cs hu=>?_
 apply wpS_seq
 apply wpS_region
 simp [wpOpsS,go_sem,recoverD,hu,Tryz.ntmps10,Exit.thenS]
 apply wpS_seq
 apply wpS_region
 simp [wpOpsS,go_sem,Exit.thenS]
 refine wpS_cond (t:=false) (by simp [Act.eval,Array.replicate]) ?_
 simp only [Bool.false_eq_true,if_false]
 refine wpS_of_wp (wp_skip ?_)
 cases c₀
 simp_all [bodyPostS,results,Tryz.results10]
theorem CS {P:Program} {o:Oper} {a:Act} {w w':World} {K:Act->World->Prop} {Q:Exit->Act->World->Prop} (h:(execOp a.eval o).run P w= .ok .skip w') (hk:K (a.put none undef) w') (hd:o.dst=none):o.wp P a w K Q:=by
 unfold Oper.wp
 rw [h]
 rw [<-hd] at hk
 exact hk
theorem KS (v:Value) (w:World):(Instr.typeAssert (.iface 38 v) 20 38 false).run Tryz.prog w= .ok v w:=by
 have h:Tryz.prog.underlying 38=_:=Tryz.underlying38
 simp [Instr.typeAssert,run_underlying h]
def ac7 (b2 b3 b4:Nat) (at_ k:Int) (w:World) (e:Ending) (u':FrameMode) (w':World):Prop:=
 e= .returned (.tuple #[])/\u'= .panicking [{ v:=.iface 38 (.agg #[.int .i64 at_,.int .i64 k]),recovered:=true }]/\
    ag w' b2 24 Z7/\ag w' b3 3 #[.int .i64 at_]/\ag w' b4 25 #[.int .i64 k]/\∀B,B<=b2->B<=b3->B<=b4->B<=w.heap.size->Below B w w'
theorem Ni (b2 b3 b4:Nat) (u0:Int) (u1:Int) (at_ k:Int) (vs:Array Value) (w:World)
  (h2:ag w b2 24 vs) (hv:∃x0 x1 x2 x3 x4 x5 x6,vs=#[x0,x1,x2,x3,x4,x5,x6]) (h3:ag w b3 3 #[.int .i64 u0]) (h4:ag w b4 25 #[.int .i64 u1]):
  CallsD Tryz.prog 10 #[.pointer (some ⟨b2,0,none⟩),.pointer (some ⟨b3,0,none⟩),.pointer (some ⟨b4,0,none⟩)]
   (.panicking [{ v:=.iface 38 (.agg #[.int .i64 at_,.int .i64 k]),recovered:=false }]) w (ac7 b2 b3 b4 at_ k w):=by
 obtain ⟨x0,x1,x2,x3,x4,x5,x6,rfl⟩:=hv
 refine callsD_of_wpS Tryz.func10 rfl fun c₀ cs hu=>?_
 apply wpS_seq
 apply wpS_region
 simp [wpOpsS,go_sem,recoverD,hu,Tryz.ntmps10,Exit.thenS]
 refine wpS_of_wp ?_
 have hta:=fun w=>KS (.agg #[.int .i64 at_,.int .i64 k]) w
 change Code.wp _ _ _ { tmps:=#[.pointer (some ⟨b2,0,none⟩),.pointer (some ⟨b3,0,none⟩),.pointer (some ⟨b4,0,none⟩),.iface 38 (.agg #[.int .i64 at_,.int .i64 k]),undef,.iface 38 (.agg #[.int .i64 at_,.int .i64 k]),undef,undef,undef,undef,undef,undef,undef,undef,undef],defers:=[] } _
 go_wp2
 refine wp_region_held_drew (S:=fun W=>ag W w.heap.size 38 #[.int .i64 at_,.int .i64 k]) (by kernel_rfl) (ag.new _ _ _).drew (fun hS0=>?_)
 refine Jl 0 (.agg #[.int .i64 0,.int .i64 0,.int .i64 0,.string ⟨#[]⟩,.string ⟨#[]⟩,.int .i64 0,.slice none 0 0]) hS0 ?_
 simp only [Act.put,gA,gB,gC,gD,gE,gF]
 refine aQ 1 hS0 ?_
 refine oU 2 hS0 ?_ (he:=fun w' hS=>by ((have s0:=hS.cell 0);unfold execOp;go_simp;first|done|exact rfl))
 refine aQ 3 hS0 ?_
 refine oU 4 hS0 ?_ (he:=fun w' hS=>by ((have s0:=hS.cell 1);unfold execOp;go_simp;first|done|exact rfl))
 have q0:(w.alloc (.cells #[.int .i64 at_,.int .i64 k] 38)).drew.cell? ⟨b2,0,none⟩=some x0:=(h2.alloc _).cell 0
 have q1:(w.alloc (.cells #[.int .i64 at_,.int .i64 k] 38)).drew.cell? ⟨b2,1,none⟩=some x1:=(h2.alloc _).cell 1
 have q2:(w.alloc (.cells #[.int .i64 at_,.int .i64 k] 38)).drew.cell? ⟨b2,2,none⟩=some x2:=(h2.alloc _).cell 2
 have q3:(w.alloc (.cells #[.int .i64 at_,.int .i64 k] 38)).drew.cell? ⟨b2,3,none⟩=some x3:=(h2.alloc _).cell 3
 have q4:(w.alloc (.cells #[.int .i64 at_,.int .i64 k] 38)).drew.cell? ⟨b2,4,none⟩=some x4:=(h2.alloc _).cell 4
 have q5:(w.alloc (.cells #[.int .i64 at_,.int .i64 k] 38)).drew.cell? ⟨b2,5,none⟩=some x5:=(h2.alloc _).cell 5
 have q6:(w.alloc (.cells #[.int .i64 at_,.int .i64 k] 38)).drew.cell? ⟨b2,6,none⟩=some x6:=(h2.alloc _).cell 6
 have qf:∀j,(w.alloc (.cells #[.int .i64 at_,.int .i64 k] 38)).drew.frozen? ⟨b2,j,none⟩=false:=fun j=>(h2.alloc _).frozen j
 have h2':ag (w.alloc (.cells #[.int .i64 at_,.int .i64 k] 38)).drew b2 24 #[x0,x1,x2,x3,x4,x5,x6]:=(h2.alloc _).drew
 have h3':ag (w.alloc (.cells #[.int .i64 at_,.int .i64 k] 38)).drew b3 3 #[.int .i64 u0]:=(h3.alloc _).drew
 have h4':ag (w.alloc (.cells #[.int .i64 at_,.int .i64 k] 38)).drew b4 25 #[.int .i64 u1]:=(h4.alloc _).drew
 have hN:w.heap.size < (w.alloc (.cells #[.int .i64 at_,.int .i64 k] 38)).drew.heap.size:=hS0.lt
 have hWB:∀B,B<=w.heap.size->Below B w (w.alloc (.cells #[.int .i64 at_,.int .i64 k] 38)).drew:=fun B hB=>((Below.refl _ w).alloc hB _).drew
 generalize (w.alloc (.cells #[.int .i64 at_,.int .i64 k] 38)).drew=W at*
 have n23:b2≠b3:=h2.ne_ h3 (by decide)
 have n24:b2≠b4:=h2.ne_ h4 (by decide)
 have n34:b3≠b4:=h3.ne_ h4 (by decide)
 have n2:w.heap.size≠b2:=Nat.ne_of_gt h2.lt
 have n3:w.heap.size≠b3:=Nat.ne_of_gt h3.lt
 have n4:w.heap.size≠b4:=Nat.ne_of_gt h4.lt
 refine oI 5 rfl (CS (w':=((((((W.setCell ⟨b2,0,none⟩ (.int .i64 0)).setCell ⟨b2,1,none⟩ (.int .i64 0)).setCell ⟨b2,2,none⟩ (.int .i64 0)).setCell ⟨b2,3,none⟩ (.string ⟨#[]⟩)).setCell ⟨b2,4,none⟩ (.string ⟨#[]⟩)).setCell ⟨b2,5,none⟩ (.int .i64 0)).setCell ⟨b2,6,none⟩ (.slice none 0 0)) (by unfold execOp;go_simp) (And.intro (ag.far (ag.far (ag.far (ag.far (ag.far (ag.far (ag.far hS0 n2 _) n2 _) n2 _) n2 _) n2 _) n2 _) n2 _) ?_) rfl)
 have k2:=h2'.seven (.int .i64 0) (.int .i64 0) (.int .i64 0) (.string ⟨#[]⟩) (.string ⟨#[]⟩) (.int .i64 0) (.slice none 0 0)
 have k3:=ag.far (ag.far (ag.far (ag.far (ag.far (ag.far (ag.far h3' (p:=⟨b2,0,none⟩) n23.symm (.int .i64 0)) (p:=⟨b2,1,none⟩) n23.symm (.int .i64 0)) (p:=⟨b2,2,none⟩) n23.symm (.int .i64 0)) (p:=⟨b2,3,none⟩) n23.symm (.string ⟨#[]⟩)) (p:=⟨b2,4,none⟩) n23.symm (.string ⟨#[]⟩)) (p:=⟨b2,5,none⟩) n23.symm (.int .i64 0)) (p:=⟨b2,6,none⟩) n23.symm (.slice none 0 0)
 have k4:=ag.far (ag.far (ag.far (ag.far (ag.far (ag.far (ag.far h4' (p:=⟨b2,0,none⟩) n24.symm (.int .i64 0)) (p:=⟨b2,1,none⟩) n24.symm (.int .i64 0)) (p:=⟨b2,2,none⟩) n24.symm (.int .i64 0)) (p:=⟨b2,3,none⟩) n24.symm (.string ⟨#[]⟩)) (p:=⟨b2,4,none⟩) n24.symm (.string ⟨#[]⟩)) (p:=⟨b2,5,none⟩) n24.symm (.int .i64 0)) (p:=⟨b2,6,none⟩) n24.symm (.slice none 0 0)
 have kS:=ag.far (ag.far (ag.far (ag.far (ag.far (ag.far (ag.far hS0 (p:=⟨b2,0,none⟩) n2 (.int .i64 0)) (p:=⟨b2,1,none⟩) n2 (.int .i64 0)) (p:=⟨b2,2,none⟩) n2 (.int .i64 0)) (p:=⟨b2,3,none⟩) n2 (.string ⟨#[]⟩)) (p:=⟨b2,4,none⟩) n2 (.string ⟨#[]⟩)) (p:=⟨b2,5,none⟩) n2 (.int .i64 0)) (p:=⟨b2,6,none⟩) n2 (.slice none 0 0)
 have kB:∀B,B<=b2->B<=w.heap.size->Below B w (((((((W.setCell ⟨b2,0,none⟩ (.int .i64 0)).setCell ⟨b2,1,none⟩ (.int .i64 0)).setCell ⟨b2,2,none⟩ (.int .i64 0)).setCell ⟨b2,3,none⟩ (.string ⟨#[]⟩)).setCell ⟨b2,4,none⟩ (.string ⟨#[]⟩)).setCell ⟨b2,5,none⟩ (.int .i64 0)).setCell ⟨b2,6,none⟩ (.slice none 0 0)):=fun B hb hw=>((((((((hWB B hw).setCell hb _).setCell hb _).setCell hb _).setCell hb _).setCell hb _).setCell hb _).setCell hb _)
 generalize (((((((W.setCell ⟨b2,0,none⟩ (.int .i64 0)).setCell ⟨b2,1,none⟩ (.int .i64 0)).setCell ⟨b2,2,none⟩ (.int .i64 0)).setCell ⟨b2,3,none⟩ (.string ⟨#[]⟩)).setCell ⟨b2,4,none⟩ (.string ⟨#[]⟩)).setCell ⟨b2,5,none⟩ (.int .i64 0)).setCell ⟨b2,6,none⟩ (.slice none 0 0))=W5 at*
 simp only [Act.put,gA,gB,gC,gD,gE,gF]
 have r3:=k3.cell 0
 have f3:=k3.frozen 0
 refine oI 6 rfl (CS (w':=W5.setCell ⟨b3,0,none⟩ (.int .i64 at_)) (by unfold execOp;go_simp) (And.intro (ag.far kS n3 _) ?_) rfl)
 simp only [Act.put,gA,gB,gC,gD,gE,gF]
 have k4':=ag.far k4 (p:=⟨b3,0,none⟩) n34.symm (.int .i64 at_)
 have r4:=k4'.cell 0
 have f4:=k4'.frozen 0
 refine oI 7 rfl (CS (w':=(W5.setCell ⟨b3,0,none⟩ (.int .i64 at_)).setCell ⟨b4,0,none⟩ (.int .i64 k)) (by unfold execOp;go_simp) (And.intro (ag.far (ag.far kS n3 _) n4 _) ?_) rfl)
 simp only [Act.put,gA,gB,gC,gD,gE,gF]
 refine eZ ?_
 refine ⟨rfl,_,rfl,.tuple #[],results_none Tryz.results10 _ _ _,rfl,rfl,?_,?_,?_,fun B hb2 hb3 hb4 hw=>((kB B hb2 hw).setCell hb3 _).setCell hb4 _⟩
 ·exact ag.far (ag.far k2 n23 _) n24 _
 ·exact ag.far (k3.ny 0 (.int .i64 at_)) n34 _
 ·exact k4'.ny 0 (.int .i64 k)
theorem CU (tmps:Array Value) (w:World) (b2 b3 b4:Nat) (x0 x1 x2 x3 x4 x5 x6 v3 v4:Value) (t2:tmps.getD 2 undef= .pointer (some ⟨b2,0,none⟩)) (t3:tmps.getD 3 undef= .pointer (some ⟨b3,0,none⟩)) (t4:tmps.getD 4 undef= .pointer (some ⟨b4,0,none⟩))
  (h2:ag w b2 24 #[x0,x1,x2,x3,x4,x5,x6]) (h3:ag w b3 3 #[v3]) (h4:ag w b4 25 #[v4]):
  (results Tryz.f4 tmps).run Tryz.prog w= .ok (.tuple #[.agg #[x0,x1,x2,x3,x4,x5,x6],v3,v4]) w:=by
 have q0:=h2.cell 0
 have q1:=h2.cell 1
 have q2:=h2.cell 2
 have q3:=h2.cell 3
 have q4:=h2.cell 4
 have q5:=h2.cell 5
 have q6:=h2.cell 6
 have q7:=h3.cell 0
 have q8:=h4.cell 0
 rw [Array.getD_eq_getD_getElem?] at t2 t3 t4
 simp [results,Tryz.results4,t2,t3,t4,go_sem,q0,q1,q2,q3,q4,q5,q6,q7,q8]
theorem Al {R:Ending->World->Prop} (tmps:Array Value) (b2 b3 b4:Nat) (u0 u1 at_ k:Int) (vs:Array Value) (w:World) (B:Nat) (t2:tmps.getD 2 undef= .pointer (some ⟨b2,0,none⟩)) (t3:tmps.getD 3 undef= .pointer (some ⟨b3,0,none⟩)) (t4:tmps.getD 4 undef= .pointer (some ⟨b4,0,none⟩))
  (h2:ag w b2 24 vs) (hv:∃x0 x1 x2 x3 x4 x5 x6,vs=#[x0,x1,x2,x3,x4,x5,x6]) (h3:ag w b3 3 #[.int .i64 u0]) (h4:ag w b4 25 #[.int .i64 u1]) (e2:B<=b2) (e3:B<=b3) (e4:B<=b4)
  (hR:∀w',Below B w w'->R (.returned (.tuple #[.agg #[.int .i64 0,.int .i64 0,.int .i64 0,.string ⟨#[]⟩,.string ⟨#[]⟩,.int .i64 0,.slice none 0 0],.int .i64 at_,.int .i64 k])) w'):
  Leaves Tryz.prog Tryz.f4 tmps R [{ target:=.fn (Fn.func 10) #[.pointer (some ⟨b2,0,none⟩),.pointer (some ⟨b3,0,none⟩),.pointer (some ⟨b4,0,none⟩)],args:=#[] }] (.panicking [{ v:=.iface 38 (.agg #[.int .i64 at_,.int .i64 k]),recovered:=false }]) w:=by
 refine leaves_cons (f:=10) (args:=#[.pointer (some ⟨b2,0,none⟩),.pointer (some ⟨b3,0,none⟩),.pointer (some ⟨b4,0,none⟩)]) (by simp) (by simp [go_sem]) ?_
 refine (Ni b2 b3 b4 u0 u1 at_ k vs w h2 hv h3 h4).mono ?_
 rintro e u' w' ⟨rfl,rfl,k2,k3,k4,hb⟩
 refine ⟨_,?_,hR w' (hb B e2 e3 e4 (Nat.le_trans e2 (Nat.le_of_lt h2.lt)))⟩
 exact CU tmps w' b2 b3 b4 _ _ _ _ _ _ _ _ _ t2 t3 t4 k2 k3 k4
theorem Qw {R:Ending->World->Prop} (tmps:Array Value) (b2 b3 b4:Nat) (x0 x1 x2 x3 x4 x5 x6 v3 v4:Value) (w:World) (t2:tmps.getD 2 undef= .pointer (some ⟨b2,0,none⟩)) (t3:tmps.getD 3 undef= .pointer (some ⟨b3,0,none⟩)) (t4:tmps.getD 4 undef= .pointer (some ⟨b4,0,none⟩))
  (h2:ag w b2 24 #[x0,x1,x2,x3,x4,x5,x6]) (h3:ag w b3 3 #[v3]) (h4:ag w b4 25 #[v4])
  (hR:R (.returned (.tuple #[.agg #[x0,x1,x2,x3,x4,x5,x6],v3,v4])) w):
  Leaves Tryz.prog Tryz.f4 tmps R [{ target:=.fn (Fn.func 10) #[.pointer (some ⟨b2,0,none⟩),.pointer (some ⟨b3,0,none⟩),.pointer (some ⟨b4,0,none⟩)],args:=#[] }] .returning w:=by
 refine leaves_cons (f:=10) (args:=#[.pointer (some ⟨b2,0,none⟩),.pointer (some ⟨b3,0,none⟩),.pointer (some ⟨b4,0,none⟩)]) (by simp) (by simp [go_sem]) ?_
 refine (Qv ⟨b2,0,none⟩ ⟨b3,0,none⟩ ⟨b4,0,none⟩ w).mono ?_
 rintro e u' w' ⟨rfl,rfl,rfl⟩
 exact ⟨_,CU tmps w' b2 b3 b4 _ _ _ _ _ _ _ _ _ t2 t3 t4 h2 h3 h4,hR⟩
end Go.Proofs.YtnhidldofjengaaGreatDoor
