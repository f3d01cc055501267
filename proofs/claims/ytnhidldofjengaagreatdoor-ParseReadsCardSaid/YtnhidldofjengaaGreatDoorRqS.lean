/- Both parsers, part 7. -/
import Derived.Test.YtnhidldofjengaaGreatDoorParK
namespace Go.Proofs.YtnhidldofjengaaGreatDoor
open Go.RowKit
set_option linter.unusedVariables false
set_option linter.unusedSimpArgs false
set_option maxRecDepth 100000
set_option maxHeartbeats 4000000
theorem nG {P:World->Prop} {p:Program} {c:Code} {Q:Exit->Act->World->Prop} {a:Act} {w:World} (h:P w) (k:∀w',P w'->c.wp p Q a w'):c.wp p Q a w:=k w h
theorem Tg (n:Nat) (hn:n+10<=cK) (H:∀m,m<=n->qQ m):CM (n+1) 118 .uq:=by
 intro E w s tr s' h heq
 have hlt:=h.lt
 have hgt:=h.iy
 have hbL:=E.bL
 have Hn:=H n (Nat.le_refl _)
 have hR0:=h
 simp only [m5] at heq
 obtain ⟨x1,s1,h1,heq⟩:=bF heq
 obtain ⟨x2,s2,h2,heq⟩:=bF heq
 have nK:=af (fun W hW=>Hn.expr E W _ 1 x1 s1 (by omega) (by omega) hW h1)
 have LV:=af (fun W hW=>Hn.block E W _ x2 s2 hW h2)
 clear h1 h2
 cases hi1:bX [101,108,115,101] s2 with
 |false=>
  have HI1:=af hi1
  simp only [hi1,Bool.false_eq_true,if_false,Option.some.injEq,Prod.mk.injEq] at heq
  obtain ⟨rfl,rfl⟩:=heq
  clear hi1
  go_enter Tryz.func118,Tryz.ntmps118
  go_wp2_with (first
   |(go_at_call 25;(with_reducible refine (aA E _ s aB [105,102] ⟨#[105,102]⟩ rfl).mono ?_);rintro e w1 ⟨rfl,fB,hg1⟩;have hG1:Gr (·=E.b) w w1:=Gr.trans aJ (Gr.mono hg1 (fun _ _ e=>e));have hs1:=hg1.size;(try simp at hs1);have kW:=fB.lt;have oP:=fB.iy;have az:ag w1 w.heap.size 24 Z7:=bU hg1))
  refine nG (P:=fun W=>RS E W (aj [105,102] s)/\Gr (·=E.b) w W/\ag W w.heap.size 24 Z7/\ag W w1.heap.size 24 (N7 21 0 0 ⟨#[]⟩ ⟨#[]⟩ (hdp s) (.slice none 0 0))/\ah W E.L (fun q=>q<=w1.heap.size) (.slice none 0 0) ([]:List Tr)/\w1.heap.size+1<=W.heap.size) ⟨aB,aJ,bz,bz,ah.none_ _ _ _,(by first|(simp;done)|(simp;omega))⟩ ?_
  rintro w2 ⟨hR2,hG2,ax,bq,jZ,hs2⟩
  have ou:=hR2.lt
  have ql:=hR2.iy
  have uf:∀q,(fun q=>q<=w1.heap.size) q->q < w2.heap.size:=fun q hq=>by have:q<=w1.heap.size:=hq;omega
  have Fq:∀q,(Value.slice none 0 0).ownBlock=some q->w.heap.size<=q:=fun q e=>by cases e
  have dO:(fun q=>q<=w1.heap.size) w1.heap.size:=Nat.le_refl _
  have cB:(fun q=>q<=w1.heap.size) w.heap.size:=by show w.heap.size<=w1.heap.size;omega
  have fT:w1.heap.size≠E.b:=by omega
  have kG:w1.heap.size≠E.g:=by omega
  obtain ⟨_,_,_,_,_,_,_,sG,uE⟩:=bq.av
  refine dD E.b E.L w1.heap.size (.pointer (some ⟨E.b,0,none⟩)) 80 #[.pointer (some ⟨E.b,0,none⟩),.int .i64 1] (fun _=>False) (fun t W=>t=x1/\RS E W s1) (jZ.x dO) jZ uf sG (uE 6) E.bL bq.lt hR2.L fT (by simp [cK]) (fun t=>bD E _ _ _ (by omega) (by omega) t) (fun t=>bD E _ _ _ E.bL E.gL t) ((nK.out w2.drew hR2.drew).mono fun e w' h=>fH h) ?_ ?_
  ·rintro a w' c _ nL _
   exact absurd nL id
  rintro vals w' A3 c3 u3 ⟨hu3,qx⟩ _ hpx hgx eB hgo
  obtain rfl:=hu3.symm
  obtain ⟨w3,hW⟩:=aS (w'.setCell ⟨w1.heap.size,6,none⟩ (.slice A3 (([]:List Tr).length+1) c3))
  have hsx:=eB.size
  have gZ:RS E w3 s1:=hW▸qx.setCell (p:=⟨w1.heap.size,6,none⟩) fT kG _
  have hG3:Gr (·=E.b) w w3:=hW▸Gr.setCell (p:=⟨w1.heap.size,6,none⟩) (jD hG2 eB Fq) (.inl (by show w.heap.size<=w1.heap.size;omega)) _
  have rQ:∀q,(Value.slice A3 (([]:List Tr).length+1) c3).ownBlock=some q->w.heap.size<=q:=fun q hq=>(hgo q hq).elim (Fq q) (fun h=>by have:=hG2.size;omega)
  have aM:ag w3 w1.heap.size 24 (N7 21 0 0 ⟨#[]⟩ ⟨#[]⟩ (hdp s) (.slice A3 (([]:List Tr).length+1) c3)):=hW▸ag.jC (ag.wx bq eB fT (fun e=>jZ.1 _ e dO)) _
  have aF:ag w3 w.heap.size 24 Z7:=hW▸ag.far (ag.wx ax eB (by omega) (fun e=>jZ.1 _ e cB)) (by show w.heap.size≠w1.heap.size;omega) _
  have zu:=aM.lt
  have je:ah w3 E.L (fun q=>q<=w1.heap.size) (.slice A3 (([]:List Tr).length+1) c3) (([]:List Tr) ++ [x1]):=hW▸hpx.setCell (p:=⟨w1.heap.size,6,none⟩) (.inr dO) _
  have hs3:w2.heap.size<=w3.heap.size:=hW▸(by simpa using hsx)
  have DC:∀q,(fun q=>q<=w1.heap.size) q->q < w3.heap.size:=fun q hq=>Nat.lt_of_lt_of_le (uf q hq) hs3
  rw [hW]
  have zP:=gZ.lt
  have Du:=gZ.iy
  clear hW qx hpx hgx eB hgo hsx
  obtain ⟨ka,hka⟩:=aS (([]:List Tr) ++ [x1])
  have nM:ka.length=([]:List Tr).length+1:=by rw [<-hka,List.length_append];rfl
  rw [hka,<-nM] at je
  rw [<-nM] at aM
  try rw [<-nM] at rQ
  have Cr:=af nM
  have Fs:=af hka
  clear nM hka
  go_wp2
  obtain ⟨_,_,_,_,_,_,_,sH,pg⟩:=aM.av
  refine dD E.b E.L w1.heap.size (.pointer (some ⟨E.b,0,none⟩)) 84 #[.pointer (some ⟨E.b,0,none⟩)] (fun _=>False) (fun t W=>t=x2/\RS E W s2) (je.x dO) je DC sH (pg 6) E.bL aM.lt gZ.L fT (by rw [Cr.out];simp [cK]) (fun t=>bD E _ _ _ (by omega) (by omega) t) (fun t=>bD E _ _ _ E.bL E.gL t) ((LV.out w3.drew gZ.drew).mono fun e w' h=>fH h) ?_ ?_
  ·rintro a w' c _ nL _
   exact absurd nL id
  rintro vals w' A4 c4 u4 ⟨hu4,qx⟩ _ hpx hgx eB hgo
  obtain rfl:=hu4.symm
  obtain ⟨w4,hW⟩:=aS (w'.setCell ⟨w1.heap.size,6,none⟩ (.slice A4 (ka.length+1) c4))
  have hsx:=eB.size
  have jb:RS E w4 s2:=hW▸qx.setCell (p:=⟨w1.heap.size,6,none⟩) fT kG _
  have hG4:Gr (·=E.b) w w4:=hW▸Gr.setCell (p:=⟨w1.heap.size,6,none⟩) (jD hG3 eB rQ) (.inl (by show w.heap.size<=w1.heap.size;omega)) _
  have GX:∀q,(Value.slice A4 (ka.length+1) c4).ownBlock=some q->w.heap.size<=q:=fun q hq=>(hgo q hq).elim (rQ q) (fun h=>by have:=hG3.size;omega)
  have aW:ag w4 w1.heap.size 24 (N7 21 0 0 ⟨#[]⟩ ⟨#[]⟩ (hdp s) (.slice A4 (ka.length+1) c4)):=hW▸ag.jC (ag.wx aM eB fT (fun e=>je.1 _ e dO)) _
  have aK:ag w4 w.heap.size 24 Z7:=hW▸ag.far (ag.wx aF eB (by omega) (fun e=>je.1 _ e cB)) (by show w.heap.size≠w1.heap.size;omega) _
  have lG:ah w4 E.L (fun q=>q<=w1.heap.size) (.slice A4 (ka.length+1) c4) (ka ++ [x2]):=hW▸hpx.setCell (p:=⟨w1.heap.size,6,none⟩) (.inr dO) _
  rw [hW]
  clear hW qx hpx hgx eB hgo hsx
  obtain ⟨kb,hkb⟩:=aS (ka ++ [x2])
  have eF:kb.length=ka.length+1:=by rw [<-hkb,List.length_append];rfl
  rw [hkb,<-eF] at lG
  rw [<-eF] at aW
  try rw [<-eF] at GX
  have nZ:=af hkb
  clear eF hkb
  go_wp2_with (first
   |(go_at_call 27;(with_reducible refine (au E _ s2 aB [101,108,115,101] ⟨#[101,108,115,101]⟩ rfl).mono ?_);rintro e w5 ⟨rfl,hg5⟩;rw [HI1.out];have jF:=bA jb hg5;have iw:=aL hG4 hg5;have aT:=bV aK hg5;obtain ⟨_,DD,DF,DI,DJ,DK,DL,DN,DR⟩:=aT.av;have aR:ag w5 w1.heap.size 24 (N7 21 0 0 ⟨#[]⟩ ⟨#[]⟩ (hdp s) (.slice A4 kb.length c4)):=ag.aC bz hg5;obtain ⟨_,LB,Ti,GU,Tj,Tm,Tn,yR,_⟩:=aR.av;have jg:ah w5 E.L (fun q=>q<=w1.heap.size) (.slice A4 kb.length c4) kb:=ah.aC nR hg5))
  exact aX Tryz.results118 rfl rfl dS ⟨aJ,aB,21,0,0,[],[],(hdp s),kb,A4,c4,(by rw [<-nZ.out,<-Fs.out];rfl),rfl,(ah.up (lo:=E.L) (X:=(fun q=>q<=w1.heap.size)) (v:=.slice A4 kb.length c4) (ks:=kb) uu (fun q hq=>by have:¬q<=w1.heap.size:=hq;omega))⟩
 |true=>
 have HI1:=af hi1
 simp only [hi1,if_true] at heq
 clear hi1
 cases hi2:bX [105,102] (aj [101,108,115,101] s2) with
 |false=>
  have HI2:=af hi2
  simp only [hi2,Bool.false_eq_true,if_false] at heq
  obtain ⟨x3,s3,h3,heq⟩:=bF heq
  simp only [Option.some.injEq,Prod.mk.injEq] at heq
  obtain ⟨rfl,rfl⟩:=heq
  have HK3:=af (fun W hW=>Hn.block E W _ x3 s3 hW h3)
  clear hi2 h3
  go_enter Tryz.func118,Tryz.ntmps118
  go_wp2_with (first
   |(go_at_call 25;(with_reducible refine (aA E _ s aB [105,102] ⟨#[105,102]⟩ rfl).mono ?_);rintro e w1 ⟨rfl,fB,hg1⟩;have hG1:Gr (·=E.b) w w1:=Gr.trans aJ (Gr.mono hg1 (fun _ _ e=>e));have hs1:=hg1.size;(try simp at hs1);have kW:=fB.lt;have oP:=fB.iy;have az:ag w1 w.heap.size 24 Z7:=bU hg1))
  refine nG (P:=fun W=>RS E W (aj [105,102] s)/\Gr (·=E.b) w W/\ag W w.heap.size 24 Z7/\ag W w1.heap.size 24 (N7 21 0 0 ⟨#[]⟩ ⟨#[]⟩ (hdp s) (.slice none 0 0))/\ah W E.L (fun q=>q<=w1.heap.size) (.slice none 0 0) ([]:List Tr)/\w1.heap.size+1<=W.heap.size) ⟨aB,aJ,bz,bz,ah.none_ _ _ _,(by first|(simp;done)|(simp;omega))⟩ ?_
  rintro w2 ⟨hR2,hG2,ax,bq,jZ,hs2⟩
  have ou:=hR2.lt
  have ql:=hR2.iy
  have uf:∀q,(fun q=>q<=w1.heap.size) q->q < w2.heap.size:=fun q hq=>by have:q<=w1.heap.size:=hq;omega
  have Fq:∀q,(Value.slice none 0 0).ownBlock=some q->w.heap.size<=q:=fun q e=>by cases e
  have dO:(fun q=>q<=w1.heap.size) w1.heap.size:=Nat.le_refl _
  have cB:(fun q=>q<=w1.heap.size) w.heap.size:=by show w.heap.size<=w1.heap.size;omega
  have fT:w1.heap.size≠E.b:=by omega
  have kG:w1.heap.size≠E.g:=by omega
  obtain ⟨_,_,_,_,_,_,_,sG,uE⟩:=bq.av
  refine dD E.b E.L w1.heap.size (.pointer (some ⟨E.b,0,none⟩)) 80 #[.pointer (some ⟨E.b,0,none⟩),.int .i64 1] (fun _=>False) (fun t W=>t=x1/\RS E W s1) (jZ.x dO) jZ uf sG (uE 6) E.bL bq.lt hR2.L fT (by simp [cK]) (fun t=>bD E _ _ _ (by omega) (by omega) t) (fun t=>bD E _ _ _ E.bL E.gL t) ((nK.out w2.drew hR2.drew).mono fun e w' h=>fH h) ?_ ?_
  ·rintro a w' c _ nL _
   exact absurd nL id
  rintro vals w' A3 c3 u3 ⟨hu3,qx⟩ _ hpx hgx eB hgo
  obtain rfl:=hu3.symm
  obtain ⟨w3,hW⟩:=aS (w'.setCell ⟨w1.heap.size,6,none⟩ (.slice A3 (([]:List Tr).length+1) c3))
  have hsx:=eB.size
  have gZ:RS E w3 s1:=hW▸qx.setCell (p:=⟨w1.heap.size,6,none⟩) fT kG _
  have hG3:Gr (·=E.b) w w3:=hW▸Gr.setCell (p:=⟨w1.heap.size,6,none⟩) (jD hG2 eB Fq) (.inl (by show w.heap.size<=w1.heap.size;omega)) _
  have rQ:∀q,(Value.slice A3 (([]:List Tr).length+1) c3).ownBlock=some q->w.heap.size<=q:=fun q hq=>(hgo q hq).elim (Fq q) (fun h=>by have:=hG2.size;omega)
  have aM:ag w3 w1.heap.size 24 (N7 21 0 0 ⟨#[]⟩ ⟨#[]⟩ (hdp s) (.slice A3 (([]:List Tr).length+1) c3)):=hW▸ag.jC (ag.wx bq eB fT (fun e=>jZ.1 _ e dO)) _
  have aF:ag w3 w.heap.size 24 Z7:=hW▸ag.far (ag.wx ax eB (by omega) (fun e=>jZ.1 _ e cB)) (by show w.heap.size≠w1.heap.size;omega) _
  have zu:=aM.lt
  have je:ah w3 E.L (fun q=>q<=w1.heap.size) (.slice A3 (([]:List Tr).length+1) c3) (([]:List Tr) ++ [x1]):=hW▸hpx.setCell (p:=⟨w1.heap.size,6,none⟩) (.inr dO) _
  have hs3:w2.heap.size<=w3.heap.size:=hW▸(by simpa using hsx)
  have DC:∀q,(fun q=>q<=w1.heap.size) q->q < w3.heap.size:=fun q hq=>Nat.lt_of_lt_of_le (uf q hq) hs3
  rw [hW]
  have zP:=gZ.lt
  have Du:=gZ.iy
  clear hW qx hpx hgx eB hgo hsx
  obtain ⟨ka,hka⟩:=aS (([]:List Tr) ++ [x1])
  have nM:ka.length=([]:List Tr).length+1:=by rw [<-hka,List.length_append];rfl
  rw [hka,<-nM] at je
  rw [<-nM] at aM
  try rw [<-nM] at rQ
  have Cr:=af nM
  have Fs:=af hka
  clear nM hka
  go_wp2
  obtain ⟨_,_,_,_,_,_,_,sH,pg⟩:=aM.av
  refine dD E.b E.L w1.heap.size (.pointer (some ⟨E.b,0,none⟩)) 84 #[.pointer (some ⟨E.b,0,none⟩)] (fun _=>False) (fun t W=>t=x2/\RS E W s2) (je.x dO) je DC sH (pg 6) E.bL aM.lt gZ.L fT (by rw [Cr.out];simp [cK]) (fun t=>bD E _ _ _ (by omega) (by omega) t) (fun t=>bD E _ _ _ E.bL E.gL t) ((LV.out w3.drew gZ.drew).mono fun e w' h=>fH h) ?_ ?_
  ·rintro a w' c _ nL _
   exact absurd nL id
  rintro vals w' A4 c4 u4 ⟨hu4,qx⟩ _ hpx hgx eB hgo
  obtain rfl:=hu4.symm
  obtain ⟨w4,hW⟩:=aS (w'.setCell ⟨w1.heap.size,6,none⟩ (.slice A4 (ka.length+1) c4))
  have hsx:=eB.size
  have jb:RS E w4 s2:=hW▸qx.setCell (p:=⟨w1.heap.size,6,none⟩) fT kG _
  have hG4:Gr (·=E.b) w w4:=hW▸Gr.setCell (p:=⟨w1.heap.size,6,none⟩) (jD hG3 eB rQ) (.inl (by show w.heap.size<=w1.heap.size;omega)) _
  have GX:∀q,(Value.slice A4 (ka.length+1) c4).ownBlock=some q->w.heap.size<=q:=fun q hq=>(hgo q hq).elim (rQ q) (fun h=>by have:=hG3.size;omega)
  have aW:ag w4 w1.heap.size 24 (N7 21 0 0 ⟨#[]⟩ ⟨#[]⟩ (hdp s) (.slice A4 (ka.length+1) c4)):=hW▸ag.jC (ag.wx aM eB fT (fun e=>je.1 _ e dO)) _
  have aK:ag w4 w.heap.size 24 Z7:=hW▸ag.far (ag.wx aF eB (by omega) (fun e=>je.1 _ e cB)) (by show w.heap.size≠w1.heap.size;omega) _
  have lG:ah w4 E.L (fun q=>q<=w1.heap.size) (.slice A4 (ka.length+1) c4) (ka ++ [x2]):=hW▸hpx.setCell (p:=⟨w1.heap.size,6,none⟩) (.inr dO) _
  have hs4:w3.heap.size<=w4.heap.size:=hW▸(by simpa using hsx)
  have Fu:∀q,(fun q=>q<=w1.heap.size) q->q < w4.heap.size:=fun q hq=>Nat.lt_of_lt_of_le (DC q hq) hs4
  rw [hW]
  clear hW qx hpx hgx eB hgo hsx
  obtain ⟨kb,hkb⟩:=aS (ka ++ [x2])
  have eF:kb.length=ka.length+1:=by rw [<-hkb,List.length_append];rfl
  rw [hkb,<-eF] at lG
  rw [<-eF] at aW
  try rw [<-eF] at GX
  have VK:=af eF
  have nZ:=af hkb
  clear eF hkb
  go_wp2_with (first
   |(go_at_call 27;(with_reducible refine (au E _ s2 aB [101,108,115,101] ⟨#[101,108,115,101]⟩ rfl).mono ?_);rintro e w5 ⟨rfl,hg5⟩;rw [HI1.out];have jF:=bA jb hg5;have iw:=aL hG4 hg5;have hs5:=hg5.size;(try simp at hs5);have aT:=bV aK hg5;have aR:ag w5 w1.heap.size 24 (N7 21 0 0 ⟨#[]⟩ ⟨#[]⟩ (hdp s) (.slice A4 kb.length c4)):=ag.aC bz hg5;have jg:ah w5 E.L (fun q=>q<=w1.heap.size) (.slice A4 kb.length c4) kb:=ah.aC nR hg5)
   |(go_at_call 25;(with_reducible refine (aA E _ s2 aB [101,108,115,101] ⟨#[101,108,115,101]⟩ rfl).mono ?_);rintro e w6 ⟨rfl,lu,dA⟩;have iX:=bP iw dA;have hs6:=dA.size;(try simp at hs6);have bn:=aT.call dA (by omega);have bE:=aR.call dA (by omega);have lH:=dU jg dA)
   |(go_at_call 27;(with_reducible refine (au E _ (aj [101,108,115,101] s2) aB [105,102] ⟨#[105,102]⟩ rfl).mono ?_);rintro e w7 ⟨rfl,dZ⟩;rw [HI2.out];have o5:RS E w7 (aj [101,108,115,101] s2):=RS.below aB dZ;have lV:=aL iX dZ;have hs7:=dZ.size;(try simp at hs7);have Oq:=o5.lt;have Ot:=o5.iy;have bW:=bn.aC dZ;have dm:=bE.aC dZ;have QU:=dm.lt;have kH:=mR lH dZ))
  have JQ:∀q,(fun q=>q<=w1.heap.size) q->q < w7.heap.size:=fun q hq=>Nat.lt_of_lt_of_le (Fu q hq) (by omega)
  have xR:=GX
  obtain ⟨_,_,_,_,_,_,_,GQ,Tp⟩:=dm.av
  refine dD E.b E.L w1.heap.size (.pointer (some ⟨E.b,0,none⟩)) 84 #[.pointer (some ⟨E.b,0,none⟩)] (fun _=>False) (fun t W=>t=x3/\RS E W s3) (kH.x dO) kH JQ GQ (Tp 6) E.bL dm.lt o5.L fT (by rw [VK.out,Cr.out];simp [cK]) (fun t=>bD E _ _ _ (by omega) (by omega) t) (fun t=>bD E _ _ _ E.bL E.gL t) ((HK3.out w7.drew o5.drew).mono fun e w' h=>fH h) ?_ ?_
  ·rintro a w' c _ nL _
   exact absurd nL id
  rintro vals w' A8 c8 u8 ⟨hu8,qx⟩ _ hpx hgx eB hgo
  obtain rfl:=hu8.symm
  obtain ⟨w8,hW⟩:=aS (w'.setCell ⟨w1.heap.size,6,none⟩ (.slice A8 (kb.length+1) c8))
  have hsx:=eB.size
  have tY:RS E w8 s3:=hW▸qx.setCell (p:=⟨w1.heap.size,6,none⟩) fT kG _
  have qJ:Gr (·=E.b) w w8:=hW▸Gr.setCell (p:=⟨w1.heap.size,6,none⟩) (jD lV eB xR) (.inl (by show w.heap.size<=w1.heap.size;omega)) _
  have Fv:∀q,(Value.slice A8 (kb.length+1) c8).ownBlock=some q->w.heap.size<=q:=fun q hq=>(hgo q hq).elim (xR q) (fun h=>by have:=lV.size;omega)
  have dV:ag w8 w1.heap.size 24 (N7 21 0 0 ⟨#[]⟩ ⟨#[]⟩ (hdp s) (.slice A8 (kb.length+1) c8)):=hW▸ag.jC (ag.wx dm eB fT (fun e=>kH.1 _ e dO)) _
  have dK:ag w8 w.heap.size 24 Z7:=hW▸ag.far (ag.wx bW eB (by omega) (fun e=>kH.1 _ e cB)) (by show w.heap.size≠w1.heap.size;omega) _
  have qy:ah w8 E.L (fun q=>q<=w1.heap.size) (.slice A8 (kb.length+1) c8) (kb ++ [x3]):=hW▸hpx.setCell (p:=⟨w1.heap.size,6,none⟩) (.inr dO) _
  rw [hW]
  clear hW qx hpx hgx eB hgo hsx
  obtain ⟨kc,hkc⟩:=aS (kb ++ [x3])
  have JR:kc.length=kb.length+1:=by rw [<-hkc,List.length_append];rfl
  rw [hkc,<-JR] at qy
  rw [<-JR] at dV
  try rw [<-JR] at Fv
  have abQ:=af hkc
  clear JR hkc
  obtain ⟨_,LA,Sy,Og,Sz,SA,SB,Dv,_⟩:=dV.av
  obtain ⟨_,NZ,N8,N9,Oa,Ob,Oc,Od,Oe⟩:=dK.av
  go_wp2
  exact aX Tryz.results118 rfl rfl dS ⟨aJ,aB,21,0,0,[],[],(hdp s),kc,A8,c8,(by rw [<-abQ.out,<-nZ.out,<-Fs.out];rfl),rfl,(ah.up (lo:=E.L) (X:=(fun q=>q<=w1.heap.size)) (v:=.slice A8 kc.length c8) (ks:=kc) uu (fun q hq=>by have:¬q<=w1.heap.size:=hq;omega))⟩
 |true=>
  have HI2:=af hi2
  simp only [hi2,if_true] at heq
  obtain ⟨x3,s3,h3,heq⟩:=bF heq
  simp only [Option.some.injEq,Prod.mk.injEq] at heq
  obtain ⟨rfl,rfl⟩:=heq
  have HK3:=af (fun W hW=>Hn.uq E W _ x3 s3 hW h3)
  clear hi2 h3
  go_enter Tryz.func118,Tryz.ntmps118
  go_wp2_with (first
   |(go_at_call 25;(with_reducible refine (aA E _ s aB [105,102] ⟨#[105,102]⟩ rfl).mono ?_);rintro e w1 ⟨rfl,fB,hg1⟩;have hG1:Gr (·=E.b) w w1:=Gr.trans aJ (Gr.mono hg1 (fun _ _ e=>e));have hs1:=hg1.size;(try simp at hs1);have kW:=fB.lt;have oP:=fB.iy;have az:ag w1 w.heap.size 24 Z7:=bU hg1))
  refine nG (P:=fun W=>RS E W (aj [105,102] s)/\Gr (·=E.b) w W/\ag W w.heap.size 24 Z7/\ag W w1.heap.size 24 (N7 21 0 0 ⟨#[]⟩ ⟨#[]⟩ (hdp s) (.slice none 0 0))/\ah W E.L (fun q=>q<=w1.heap.size) (.slice none 0 0) ([]:List Tr)/\w1.heap.size+1<=W.heap.size) ⟨aB,aJ,bz,bz,ah.none_ _ _ _,(by first|(simp;done)|(simp;omega))⟩ ?_
  rintro w2 ⟨hR2,hG2,ax,bq,jZ,hs2⟩
  have ou:=hR2.lt
  have ql:=hR2.iy
  have uf:∀q,(fun q=>q<=w1.heap.size) q->q < w2.heap.size:=fun q hq=>by have:q<=w1.heap.size:=hq;omega
  have Fq:∀q,(Value.slice none 0 0).ownBlock=some q->w.heap.size<=q:=fun q e=>by cases e
  have dO:(fun q=>q<=w1.heap.size) w1.heap.size:=Nat.le_refl _
  have cB:(fun q=>q<=w1.heap.size) w.heap.size:=by show w.heap.size<=w1.heap.size;omega
  have fT:w1.heap.size≠E.b:=by omega
  have kG:w1.heap.size≠E.g:=by omega
  obtain ⟨_,_,_,_,_,_,_,sG,uE⟩:=bq.av
  refine dD E.b E.L w1.heap.size (.pointer (some ⟨E.b,0,none⟩)) 80 #[.pointer (some ⟨E.b,0,none⟩),.int .i64 1] (fun _=>False) (fun t W=>t=x1/\RS E W s1) (jZ.x dO) jZ uf sG (uE 6) E.bL bq.lt hR2.L fT (by simp [cK]) (fun t=>bD E _ _ _ (by omega) (by omega) t) (fun t=>bD E _ _ _ E.bL E.gL t) ((nK.out w2.drew hR2.drew).mono fun e w' h=>fH h) ?_ ?_
  ·rintro a w' c _ nL _
   exact absurd nL id
  rintro vals w' A3 c3 u3 ⟨hu3,qx⟩ _ hpx hgx eB hgo
  obtain rfl:=hu3.symm
  obtain ⟨w3,hW⟩:=aS (w'.setCell ⟨w1.heap.size,6,none⟩ (.slice A3 (([]:List Tr).length+1) c3))
  have hsx:=eB.size
  have gZ:RS E w3 s1:=hW▸qx.setCell (p:=⟨w1.heap.size,6,none⟩) fT kG _
  have hG3:Gr (·=E.b) w w3:=hW▸Gr.setCell (p:=⟨w1.heap.size,6,none⟩) (jD hG2 eB Fq) (.inl (by show w.heap.size<=w1.heap.size;omega)) _
  have rQ:∀q,(Value.slice A3 (([]:List Tr).length+1) c3).ownBlock=some q->w.heap.size<=q:=fun q hq=>(hgo q hq).elim (Fq q) (fun h=>by have:=hG2.size;omega)
  have aM:ag w3 w1.heap.size 24 (N7 21 0 0 ⟨#[]⟩ ⟨#[]⟩ (hdp s) (.slice A3 (([]:List Tr).length+1) c3)):=hW▸ag.jC (ag.wx bq eB fT (fun e=>jZ.1 _ e dO)) _
  have aF:ag w3 w.heap.size 24 Z7:=hW▸ag.far (ag.wx ax eB (by omega) (fun e=>jZ.1 _ e cB)) (by show w.heap.size≠w1.heap.size;omega) _
  have zu:=aM.lt
  have je:ah w3 E.L (fun q=>q<=w1.heap.size) (.slice A3 (([]:List Tr).length+1) c3) (([]:List Tr) ++ [x1]):=hW▸hpx.setCell (p:=⟨w1.heap.size,6,none⟩) (.inr dO) _
  have hs3:w2.heap.size<=w3.heap.size:=hW▸(by simpa using hsx)
  have DC:∀q,(fun q=>q<=w1.heap.size) q->q < w3.heap.size:=fun q hq=>Nat.lt_of_lt_of_le (uf q hq) hs3
  rw [hW]
  have zP:=gZ.lt
  have Du:=gZ.iy
  clear hW qx hpx hgx eB hgo hsx
  obtain ⟨ka,hka⟩:=aS (([]:List Tr) ++ [x1])
  have nM:ka.length=([]:List Tr).length+1:=by rw [<-hka,List.length_append];rfl
  rw [hka,<-nM] at je
  rw [<-nM] at aM
  try rw [<-nM] at rQ
  have Cr:=af nM
  have Fs:=af hka
  clear nM hka
  go_wp2
  obtain ⟨_,_,_,_,_,_,_,sH,pg⟩:=aM.av
  refine dD E.b E.L w1.heap.size (.pointer (some ⟨E.b,0,none⟩)) 84 #[.pointer (some ⟨E.b,0,none⟩)] (fun _=>False) (fun t W=>t=x2/\RS E W s2) (je.x dO) je DC sH (pg 6) E.bL aM.lt gZ.L fT (by rw [Cr.out];simp [cK]) (fun t=>bD E _ _ _ (by omega) (by omega) t) (fun t=>bD E _ _ _ E.bL E.gL t) ((LV.out w3.drew gZ.drew).mono fun e w' h=>fH h) ?_ ?_
  ·rintro a w' c _ nL _
   exact absurd nL id
  rintro vals w' A4 c4 u4 ⟨hu4,qx⟩ _ hpx hgx eB hgo
  obtain rfl:=hu4.symm
  obtain ⟨w4,hW⟩:=aS (w'.setCell ⟨w1.heap.size,6,none⟩ (.slice A4 (ka.length+1) c4))
  have hsx:=eB.size
  have jb:RS E w4 s2:=hW▸qx.setCell (p:=⟨w1.heap.size,6,none⟩) fT kG _
  have hG4:Gr (·=E.b) w w4:=hW▸Gr.setCell (p:=⟨w1.heap.size,6,none⟩) (jD hG3 eB rQ) (.inl (by show w.heap.size<=w1.heap.size;omega)) _
  have GX:∀q,(Value.slice A4 (ka.length+1) c4).ownBlock=some q->w.heap.size<=q:=fun q hq=>(hgo q hq).elim (rQ q) (fun h=>by have:=hG3.size;omega)
  have aW:ag w4 w1.heap.size 24 (N7 21 0 0 ⟨#[]⟩ ⟨#[]⟩ (hdp s) (.slice A4 (ka.length+1) c4)):=hW▸ag.jC (ag.wx aM eB fT (fun e=>je.1 _ e dO)) _
  have aK:ag w4 w.heap.size 24 Z7:=hW▸ag.far (ag.wx aF eB (by omega) (fun e=>je.1 _ e cB)) (by show w.heap.size≠w1.heap.size;omega) _
  have lG:ah w4 E.L (fun q=>q<=w1.heap.size) (.slice A4 (ka.length+1) c4) (ka ++ [x2]):=hW▸hpx.setCell (p:=⟨w1.heap.size,6,none⟩) (.inr dO) _
  have hs4:w3.heap.size<=w4.heap.size:=hW▸(by simpa using hsx)
  have Fu:∀q,(fun q=>q<=w1.heap.size) q->q < w4.heap.size:=fun q hq=>Nat.lt_of_lt_of_le (DC q hq) hs4
  rw [hW]
  clear hW qx hpx hgx eB hgo hsx
  obtain ⟨kb,hkb⟩:=aS (ka ++ [x2])
  have eF:kb.length=ka.length+1:=by rw [<-hkb,List.length_append];rfl
  rw [hkb,<-eF] at lG
  rw [<-eF] at aW
  try rw [<-eF] at GX
  have VK:=af eF
  have nZ:=af hkb
  clear eF hkb
  go_wp2_with (first
   |(go_at_call 27;(with_reducible refine (au E _ s2 aB [101,108,115,101] ⟨#[101,108,115,101]⟩ rfl).mono ?_);rintro e w5 ⟨rfl,hg5⟩;rw [HI1.out];have jF:=bA jb hg5;have iw:=aL hG4 hg5;have hs5:=hg5.size;(try simp at hs5);have aT:=bV aK hg5;have aR:ag w5 w1.heap.size 24 (N7 21 0 0 ⟨#[]⟩ ⟨#[]⟩ (hdp s) (.slice A4 kb.length c4)):=ag.aC bz hg5;have jg:ah w5 E.L (fun q=>q<=w1.heap.size) (.slice A4 kb.length c4) kb:=ah.aC nR hg5)
   |(go_at_call 25;(with_reducible refine (aA E _ s2 aB [101,108,115,101] ⟨#[101,108,115,101]⟩ rfl).mono ?_);rintro e w6 ⟨rfl,lu,dA⟩;have iX:=bP iw dA;have hs6:=dA.size;(try simp at hs6);have bn:=aT.call dA (by omega);have bE:=aR.call dA (by omega);have lH:=dU jg dA)
   |(go_at_call 27;(with_reducible refine (au E _ (aj [101,108,115,101] s2) aB [105,102] ⟨#[105,102]⟩ rfl).mono ?_);rintro e w7 ⟨rfl,dZ⟩;rw [HI2.out];have o5:RS E w7 (aj [101,108,115,101] s2):=RS.below aB dZ;have lV:=aL iX dZ;have hs7:=dZ.size;(try simp at hs7);have Oq:=o5.lt;have Ot:=o5.iy;have bW:=bn.aC dZ;have dm:=bE.aC dZ;have QU:=dm.lt;have kH:=mR lH dZ))
  have JQ:∀q,(fun q=>q<=w1.heap.size) q->q < w7.heap.size:=fun q hq=>Nat.lt_of_lt_of_le (Fu q hq) (by omega)
  have xR:=GX
  obtain ⟨_,_,_,_,_,_,_,GQ,Tp⟩:=dm.av
  refine dD E.b E.L w1.heap.size (.pointer (some ⟨E.b,0,none⟩)) 118 #[.pointer (some ⟨E.b,0,none⟩)] (fun _=>False) (fun t W=>t=x3/\RS E W s3) (kH.x dO) kH JQ GQ (Tp 6) E.bL dm.lt o5.L fT (by rw [VK.out,Cr.out];simp [cK]) (fun t=>bD E _ _ _ (by omega) (by omega) t) (fun t=>bD E _ _ _ E.bL E.gL t) ((HK3.out w7.drew o5.drew).mono fun e w' h=>fH h) ?_ ?_
  ·rintro a w' c _ nL _
   exact absurd nL id
  rintro vals w' A8 c8 u8 ⟨hu8,qx⟩ _ hpx hgx eB hgo
  obtain rfl:=hu8.symm
  obtain ⟨w8,hW⟩:=aS (w'.setCell ⟨w1.heap.size,6,none⟩ (.slice A8 (kb.length+1) c8))
  have hsx:=eB.size
  have tY:RS E w8 s3:=hW▸qx.setCell (p:=⟨w1.heap.size,6,none⟩) fT kG _
  have qJ:Gr (·=E.b) w w8:=hW▸Gr.setCell (p:=⟨w1.heap.size,6,none⟩) (jD lV eB xR) (.inl (by show w.heap.size<=w1.heap.size;omega)) _
  have Fv:∀q,(Value.slice A8 (kb.length+1) c8).ownBlock=some q->w.heap.size<=q:=fun q hq=>(hgo q hq).elim (xR q) (fun h=>by have:=lV.size;omega)
  have dV:ag w8 w1.heap.size 24 (N7 21 0 0 ⟨#[]⟩ ⟨#[]⟩ (hdp s) (.slice A8 (kb.length+1) c8)):=hW▸ag.jC (ag.wx dm eB fT (fun e=>kH.1 _ e dO)) _
  have dK:ag w8 w.heap.size 24 Z7:=hW▸ag.far (ag.wx bW eB (by omega) (fun e=>kH.1 _ e cB)) (by show w.heap.size≠w1.heap.size;omega) _
  have qy:ah w8 E.L (fun q=>q<=w1.heap.size) (.slice A8 (kb.length+1) c8) (kb ++ [x3]):=hW▸hpx.setCell (p:=⟨w1.heap.size,6,none⟩) (.inr dO) _
  rw [hW]
  clear hW qx hpx hgx eB hgo hsx
  obtain ⟨kc,hkc⟩:=aS (kb ++ [x3])
  have JR:kc.length=kb.length+1:=by rw [<-hkc,List.length_append];rfl
  rw [hkc,<-JR] at qy
  rw [<-JR] at dV
  try rw [<-JR] at Fv
  have abQ:=af hkc
  clear JR hkc
  obtain ⟨_,LA,Sy,Og,Sz,SA,SB,Dv,_⟩:=dV.av
  obtain ⟨_,NZ,N8,N9,Oa,Ob,Oc,Od,Oe⟩:=dK.av
  go_wp2
  exact aX Tryz.results118 rfl rfl dS ⟨aJ,aB,21,0,0,[],[],(hdp s),kc,A8,c8,(by rw [<-abQ.out,<-nZ.out,<-Fs.out];rfl),rfl,(ah.up (lo:=E.L) (X:=(fun q=>q<=w1.heap.size)) (v:=.slice A8 kc.length c8) (ks:=kc) uu (fun q hq=>by have:¬q<=w1.heap.size:=hq;omega))⟩
theorem JS (n:Nat) (hn:n+10<=cK) (H:∀m,m<=n->qQ m):BrM (n+1):=by
 intro E w s h0 X k op p t a ks A c tr s' h su xO dO fT kG tZ hlen heq
 have hbL:=E.bL
 have Hn:=H n (Nat.le_refl _)
 have hR0:=h
 simp only [m5] at heq
 cases hi1:bX [58] (aj [91] s) with
 |true=>
  have HI1:=af hi1
  simp only [hi1,if_true] at heq
  clear hi1
  cases hi2:bX [93] (aj [58] (aj [91] s)) with
  |true=>
  have HI2:=af hi2
  simp only [hi2,if_true,Option.some.injEq,Prod.mk.injEq] at heq
  obtain ⟨rfl,rfl⟩:=heq
  clear hi2
  go_enter Tryz.func133,Tryz.ntmps133
  obtain ⟨_,YZ,_,_,_,_,_,_,S9⟩:=su.av
  have vO:ag (w.setCell ⟨h0,0,none⟩ (.int .i64 34)) h0 24 (N7 34 op 0 (bs p) (bs t) a (.slice A ks.length c)):=ag.set0 su _
  have JU:Gr (fun q=>q=E.b\/q=h0\/(Value.slice A ks.length c).ownBlock=some q) w (w.setCell ⟨h0,0,none⟩ (.int .i64 34)):=Gr.setCell (p:=⟨h0,0,none⟩) (Gr.refl w) (.inr (.inr (.inl rfl))) _
  have vP:ah (w.setCell ⟨h0,0,none⟩ (.int .i64 34)) E.L X (.slice A ks.length c) ks:=xO.setCell (p:=⟨h0,0,none⟩) (.inr dO) _
  go_wp2_with (first
   |(go_at_call 25;(with_reducible refine (aA E _ s aB [91] ⟨#[91]⟩ rfl).mono ?_);rintro e w1 ⟨rfl,fB,hg1⟩;have hG1:=nV JU hg1;have nY:=aD vO hg1;have qp:=dU vP hg1)
   |(go_at_call 27;(with_reducible refine (au E _ (aj [91] s) aB [58] ⟨#[58]⟩ rfl).mono ?_);rintro e w2 ⟨rfl,hg2⟩;rw [HI1.out];have hR2:RS E w2 (aj [91] s):=RS.below aB hg2;have hG2:=aL hG1 hg2;have bq:=nY.aC hg2;have jZ:=mR qp hg2)
   |(go_at_call 27;(with_reducible refine (au E _ (aj [91] s) aB [58] ⟨#[58]⟩ rfl).mono ?_);rintro e w3 ⟨rfl,hg3⟩;rw [HI1.out];have gZ:=bA hR2 hg3;have hG3:=aL hG2 hg3;have aM:=bq.aC hg3;obtain ⟨_,yP,_,_,_,_,_,_,pg⟩:=aM.av;have je:=mR jZ hg3;have uF:ag (w3.setCell ⟨h0,0,none⟩ (.int .i64 35)) h0 24 (N7 35 op 0 (bs p) (bs t) a (.slice A ks.length c)):=ag.set0 aM _;have abR:Gr (fun q=>q=E.b\/q=h0\/(Value.slice A ks.length c).ownBlock=some q) w (w3.setCell ⟨h0,0,none⟩ (.int .i64 35)):=Gr.setCell (p:=⟨h0,0,none⟩) hG3 (.inr (.inr (.inl rfl))) _;have OB:ah (w3.setCell ⟨h0,0,none⟩ (.int .i64 35)) E.L X (.slice A ks.length c) ks:=je.setCell (p:=⟨h0,0,none⟩) (.inr dO) _)
   |(go_at_call 25;(with_reducible refine (aA E _ (aj [91] s) aB [58] ⟨#[58]⟩ rfl).mono ?_);rintro e w4 ⟨rfl,jb,hg4⟩;have hG4:=nV abR hg4;have aW:=aD uF hg4;have lG:=dU OB hg4)
   |(go_at_call 27;(with_reducible refine (au E _ (aj [58] (aj [91] s)) aB [93] ⟨#[93]⟩ rfl).mono ?_);rintro e w5 ⟨rfl,hg5⟩;rw [HI2.out];have jF:RS E w5 (aj [58] (aj [91] s)):=RS.below aB hg5;have iw:=aL hG4 hg5;have aR:=aW.aC hg5;have jg:=mR lG hg5)
   |(go_at_call 25;(with_reducible refine (aA E _ (aj [58] (aj [91] s)) aB [93] ⟨#[93]⟩ rfl).mono ?_);rintro e w6 ⟨rfl,lu,dA⟩;have iX:=nV iw dA;have bE:=aR.call dA (by omega);have lH:=dU jg dA))
  exact bodyPost_end (results_none rfl _ _ _) rfl ⟨rfl,lu,iX,_,_,_,_,_,_,_,_,_,rfl,bE,lH,fun q h=>.inl h,by omega⟩
  |false=>
  have HI2:=af hi2
  simp only [hi2,Bool.false_eq_true,if_false] at heq
  obtain ⟨x1,s1,h1,heq⟩:=bF heq
  simp only [Option.some.injEq,Prod.mk.injEq] at heq
  obtain ⟨rfl,rfl⟩:=heq
  have nK:=af (fun W hW=>Hn.expr E W _ 1 x1 s1 (by omega) (by omega) hW h1)
  clear hi2 h1 hn
  go_enter Tryz.func133,Tryz.ntmps133
  obtain ⟨_,YZ,_,_,_,_,_,_,S9⟩:=su.av
  have vO:ag (w.setCell ⟨h0,0,none⟩ (.int .i64 34)) h0 24 (N7 34 op 0 (bs p) (bs t) a (.slice A ks.length c)):=ag.set0 su _
  have JU:Gr (fun q=>q=E.b\/q=h0\/(Value.slice A ks.length c).ownBlock=some q) w (w.setCell ⟨h0,0,none⟩ (.int .i64 34)):=Gr.setCell (p:=⟨h0,0,none⟩) (Gr.refl w) (.inr (.inr (.inl rfl))) _
  have vP:ah (w.setCell ⟨h0,0,none⟩ (.int .i64 34)) E.L X (.slice A ks.length c) ks:=xO.setCell (p:=⟨h0,0,none⟩) (.inr dO) _
  go_wp2_with (first
   |(go_at_call 25;(with_reducible refine (aA E _ s aB [91] ⟨#[91]⟩ rfl).mono ?_);rintro e w1 ⟨rfl,fB,hg1⟩;have hG1:=nV JU hg1;have hs1:=hg1.size;(try simp at hs1);have nY:=aD vO hg1;have qp:=dU vP hg1)
   |(go_at_call 27;(with_reducible refine (au E _ (aj [91] s) aB [58] ⟨#[58]⟩ rfl).mono ?_);rintro e w2 ⟨rfl,hg2⟩;rw [HI1.out];have hR2:RS E w2 (aj [91] s):=RS.below aB hg2;have hG2:=aL hG1 hg2;have hs2:=hg2.size;(try simp at hs2);have bq:=nY.aC hg2;have jZ:=mR qp hg2)
   |(go_at_call 27;(with_reducible refine (au E _ (aj [91] s) aB [58] ⟨#[58]⟩ rfl).mono ?_);rintro e w3 ⟨rfl,hg3⟩;rw [HI1.out];have gZ:=bA hR2 hg3;have hG3:=aL hG2 hg3;have hs3:=hg3.size;(try simp at hs3);have aM:=bq.aC hg3;obtain ⟨_,yP,_,_,_,_,_,_,pg⟩:=aM.av;have je:=mR jZ hg3;have uF:ag (w3.setCell ⟨h0,0,none⟩ (.int .i64 35)) h0 24 (N7 35 op 0 (bs p) (bs t) a (.slice A ks.length c)):=ag.set0 aM _;have abR:Gr (fun q=>q=E.b\/q=h0\/(Value.slice A ks.length c).ownBlock=some q) w (w3.setCell ⟨h0,0,none⟩ (.int .i64 35)):=Gr.setCell (p:=⟨h0,0,none⟩) hG3 (.inr (.inr (.inl rfl))) _;have OB:ah (w3.setCell ⟨h0,0,none⟩ (.int .i64 35)) E.L X (.slice A ks.length c) ks:=je.setCell (p:=⟨h0,0,none⟩) (.inr dO) _)
   |(go_at_call 25;(with_reducible refine (aA E _ (aj [91] s) aB [58] ⟨#[58]⟩ rfl).mono ?_);rintro e w4 ⟨rfl,jb,hg4⟩;have hG4:=nV abR hg4;have hs4:=hg4.size;(try simp at hs4);have aW:=aD uF hg4;have lG:=dU OB hg4)
   |(go_at_call 27;(with_reducible refine (au E _ (aj [58] (aj [91] s)) aB [93] ⟨#[93]⟩ rfl).mono ?_);rintro e w5 ⟨rfl,hg5⟩;rw [HI2.out];have jF:RS E w5 (aj [58] (aj [91] s)):=RS.below aB hg5;have iw:=aL hG4 hg5;have hs5:=hg5.size;(try simp at hs5);have aR:=aW.aC hg5;obtain ⟨_,_,_,GU,_,_,_,_,zO⟩:=aR.av;have jg:=mR lG hg5;have JV:ag (w5.setCell ⟨h0,2,none⟩ (.int .i64 2)) h0 24 (N7 35 op 2 (bs p) (bs t) a (.slice A ks.length c)):=ag.set2 aR _;have Y0:Gr (fun q=>q=E.b\/q=h0\/(Value.slice A ks.length c).ownBlock=some q) w (w5.setCell ⟨h0,2,none⟩ (.int .i64 2)):=Gr.setCell (p:=⟨h0,2,none⟩) iw (.inr (.inr (.inl rfl))) _;have JW:ah (w5.setCell ⟨h0,2,none⟩ (.int .i64 2)) E.L X (.slice A ks.length c) ks:=jg.setCell (p:=⟨h0,2,none⟩) (.inr dO) _))
  refine nG (P:=fun W=>RS E W (aj [58] (aj [91] s))/\Gr (fun q=>q=E.b\/q=h0\/(Value.slice A ks.length c).ownBlock=some q) w W/\ag W h0 24 (N7 35 op 2 (bs p) (bs t) a (.slice A ks.length c))/\ah W E.L X (.slice A ks.length c) ks/\w5.heap.size+0<=W.heap.size) ⟨aB,aJ,bz,uu,(by first|(simp;done)|(simp;omega))⟩ ?_
  rintro w6 ⟨lu,iX,bE,lH,hs6⟩
  have Tc:=lu.lt
  have Ou:=lu.iy
  have DT:∀q,X q->q < w6.heap.size:=fun q hq=>Nat.lt_of_lt_of_le (tZ q hq) (by omega)
  refine eX 14 5 7 8 9 10 13 3 6 12 E.b 80 #[.pointer (some ⟨E.b,0,none⟩),.int .i64 1] (fun _=>False) (fun W=>RS E W (aj [58] (aj [91] s))) (fun t W=>t=x1/\RS E W s1)
   lH dO DT bE E.bL (by omega) fT lu.L (by omega) (kr E _ _ (by omega) (by omega)) lu (fun t=>bD E _ _ _ E.bL E.gL t) (fun t w u hd=>⟨hd.1,hd.2.setCell fT kG u⟩) (fun W hW=>(nK.out W hW).mono fun e w' h=>fH h) ?_ ?_
  ·rintro a w' c _ nL _
   exact absurd nL id
  rintro vals w7 A7 c7 u7 ⟨hu7,o5⟩ kH JX dm xR
  obtain rfl:=hu7.symm
  dsimp only [bG,List.take_succ_cons,List.take_zero,List.take_nil]
  have lV:Gr (fun q=>q=E.b\/q=h0\/(Value.slice A ks.length c).ownBlock=some q) w w7:=Gr.wide iX JX (fun q hq hs=>hs.elim .inl (fun hs=>hs.elim (fun e=>.inr (.inl e)) (fun e=>(Or.inl e).elim (fun h=>.inr (.inr h)) (fun h=>by omega))))
  obtain ⟨k,hk⟩:=aS (ks ++ [x1])
  have hlk:k.length=ks.length+1:=by rw [<-hk,List.length_append];rfl
  have Di:∀q,(Value.slice A7 k.length c7).ownBlock=some q->(Value.slice A ks.length c).ownBlock=some q\/w.heap.size<=q:=fun q hq=>by
   rw [hlk] at hq
   exact (xR q hq).elim Or.inl (fun h=>.inr (by omega))
  rw [hk,<-hlk] at kH
  rw [<-hlk] at dm
  have ZY:=af hlk
  have HKk:=af hk
  clear hlk hk xR
  go_wp2_with (first
   |(go_at_call 25;(with_reducible refine (aA E _ s1 aB [93] ⟨#[93]⟩ rfl).mono ?_);rintro e w8 ⟨rfl,tY,fK⟩;have qJ:=nV lV fK;have dV:ag w8 h0 24 (N7 35 op 2 (bs p) (bs t) a (.slice A7 k.length c7)):=bU fK;have qy:ah w8 E.L X (.slice A7 k.length c7) k:=vJ fK))
  exact bodyPost_end (results_none rfl _ _ _) rfl ⟨rfl,tY,qJ,_,_,_,_,_,_,_,_,_,(by rw [<-HKk.out];rfl),dV,qy,Di,by rw [ZY.out];omega⟩
 |false=>
  have HI1:=af hi1
  simp only [hi1,Bool.false_eq_true,if_false] at heq
  obtain ⟨x1,s1,h1,heq⟩:=bF heq
  have nK:=af (fun W hW=>Hn.expr E W _ 1 x1 s1 (by omega) (by omega) hW h1)
  clear hi1 h1 hn
  cases hi2:bX [58] s1 with
  |false=>
  have HI2:=af hi2
  simp only [hi2,Bool.false_eq_true,if_false,Option.some.injEq,Prod.mk.injEq] at heq
  obtain ⟨rfl,rfl⟩:=heq
  clear hi2
  go_enter Tryz.func133,Tryz.ntmps133
  obtain ⟨_,YZ,_,_,_,_,_,_,S9⟩:=su.av
  have vO:ag (w.setCell ⟨h0,0,none⟩ (.int .i64 34)) h0 24 (N7 34 op 0 (bs p) (bs t) a (.slice A ks.length c)):=ag.set0 su _
  have JU:Gr (fun q=>q=E.b\/q=h0\/(Value.slice A ks.length c).ownBlock=some q) w (w.setCell ⟨h0,0,none⟩ (.int .i64 34)):=Gr.setCell (p:=⟨h0,0,none⟩) (Gr.refl w) (.inr (.inr (.inl rfl))) _
  have vP:ah (w.setCell ⟨h0,0,none⟩ (.int .i64 34)) E.L X (.slice A ks.length c) ks:=xO.setCell (p:=⟨h0,0,none⟩) (.inr dO) _
  go_wp2_with (first
   |(go_at_call 25;(with_reducible refine (aA E _ s aB [91] ⟨#[91]⟩ rfl).mono ?_);rintro e w1 ⟨rfl,fB,hg1⟩;have hG1:=nV JU hg1;have hs1:=hg1.size;(try simp at hs1);have nY:=aD vO hg1;have qp:=dU vP hg1)
   |(go_at_call 27;(with_reducible refine (au E _ (aj [91] s) aB [58] ⟨#[58]⟩ rfl).mono ?_);rintro e w2 ⟨rfl,hg2⟩;rw [HI1.out];have hR2:RS E w2 (aj [91] s):=RS.below aB hg2;have hG2:=aL hG1 hg2;have hs2:=hg2.size;(try simp at hs2);have ou:=hR2.lt;have ql:=hR2.iy;have bq:=nY.aC hg2;have jZ:=mR qp hg2))
  have uf:∀q,X q->q < w2.heap.size:=fun q hq=>Nat.lt_of_lt_of_le (tZ q hq) (by omega)
  refine eX 14 5 7 8 9 10 13 3 6 12 E.b 80 #[.pointer (some ⟨E.b,0,none⟩),.int .i64 1] (fun _=>False) (fun W=>RS E W (aj [91] s)) (fun t W=>t=x1/\RS E W s1)
   jZ dO uf bq E.bL (by omega) fT hR2.L (by omega) (kr E _ _ (by omega) (by omega)) hR2 (fun t=>bD E _ _ _ E.bL E.gL t) (fun t w u hd=>⟨hd.1,hd.2.setCell fT kG u⟩) (fun W hW=>(nK.out W hW).mono fun e w' h=>fH h) ?_ ?_
  ·rintro a w' c _ nL _
   exact absurd nL id
  rintro vals w3 A3 c3 u3 ⟨hu3,gZ⟩ je JO aM rQ
  obtain rfl:=hu3.symm
  dsimp only [bG,List.take_succ_cons,List.take_zero,List.take_nil]
  have hG3:Gr (fun q=>q=E.b\/q=h0\/(Value.slice A ks.length c).ownBlock=some q) w w3:=Gr.wide hG2 JO (fun q hq hs=>hs.elim .inl (fun hs=>hs.elim (fun e=>.inr (.inl e)) (fun e=>(Or.inl e).elim (fun h=>.inr (.inr h)) (fun h=>by omega))))
  obtain ⟨k,hk⟩:=aS (ks ++ [x1])
  have hlk:k.length=ks.length+1:=by rw [<-hk,List.length_append];rfl
  have Di:∀q,(Value.slice A3 k.length c3).ownBlock=some q->(Value.slice A ks.length c).ownBlock=some q\/w.heap.size<=q:=fun q hq=>by
   rw [hlk] at hq
   exact (rQ q hq).elim Or.inl (fun h=>.inr (by omega))
  rw [hk,<-hlk] at je
  rw [<-hlk] at aM
  have ZY:=af hlk
  have HKk:=af hk
  clear hlk hk rQ
  go_wp2_with (first
   |(go_at_call 27;(with_reducible refine (au E _ s1 aB [58] ⟨#[58]⟩ rfl).mono ?_);rintro e w4 ⟨rfl,hg4⟩;rw [HI2.out];have jb:RS E w4 s1:=RS.below aB hg4;have hG4:=aL hG3 hg4;have aW:ag w4 h0 24 (N7 34 op 0 (bs p) (bs t) a (.slice A3 k.length c3)):=ag.aC bz hg4;have lG:ah w4 E.L X (.slice A3 k.length c3) k:=ah.aC nR hg4)
   |(go_at_call 25;(with_reducible refine (aA E _ s1 aB [93] ⟨#[93]⟩ rfl).mono ?_);rintro e w5 ⟨rfl,jF,hg5⟩;have iw:=nV hG4 hg5;have aR:=aW.call hg5 (by omega);have jg:=dU lG hg5))
  exact bodyPost_end (results_none rfl _ _ _) rfl ⟨rfl,jF,iw,_,_,_,_,_,_,_,_,_,(by rw [<-HKk.out];rfl),aR,jg,Di,by rw [ZY.out];omega⟩
  |true=>
  have HI2:=af hi2
  simp only [hi2,if_true] at heq
  clear hi2
  cases hi3:bX [93] (aj [58] s1) with
  |true=>
  have HI3:=af hi3
  simp only [hi3,if_true,Option.some.injEq,Prod.mk.injEq] at heq
  obtain ⟨rfl,rfl⟩:=heq
  clear hi3
  go_enter Tryz.func133,Tryz.ntmps133
  obtain ⟨_,YZ,_,_,_,_,_,_,S9⟩:=su.av
  have vO:ag (w.setCell ⟨h0,0,none⟩ (.int .i64 34)) h0 24 (N7 34 op 0 (bs p) (bs t) a (.slice A ks.length c)):=ag.set0 su _
  have JU:Gr (fun q=>q=E.b\/q=h0\/(Value.slice A ks.length c).ownBlock=some q) w (w.setCell ⟨h0,0,none⟩ (.int .i64 34)):=Gr.setCell (p:=⟨h0,0,none⟩) (Gr.refl w) (.inr (.inr (.inl rfl))) _
  have vP:ah (w.setCell ⟨h0,0,none⟩ (.int .i64 34)) E.L X (.slice A ks.length c) ks:=xO.setCell (p:=⟨h0,0,none⟩) (.inr dO) _
  go_wp2_with (first
   |(go_at_call 25;(with_reducible refine (aA E _ s aB [91] ⟨#[91]⟩ rfl).mono ?_);rintro e w1 ⟨rfl,fB,hg1⟩;have hG1:=nV JU hg1;have hs1:=hg1.size;(try simp at hs1);have nY:=aD vO hg1;have qp:=dU vP hg1)
   |(go_at_call 27;(with_reducible refine (au E _ (aj [91] s) aB [58] ⟨#[58]⟩ rfl).mono ?_);rintro e w2 ⟨rfl,hg2⟩;rw [HI1.out];have hR2:RS E w2 (aj [91] s):=RS.below aB hg2;have hG2:=aL hG1 hg2;have hs2:=hg2.size;(try simp at hs2);have ou:=hR2.lt;have ql:=hR2.iy;have bq:=nY.aC hg2;have jZ:=mR qp hg2))
  have uf:∀q,X q->q < w2.heap.size:=fun q hq=>Nat.lt_of_lt_of_le (tZ q hq) (by omega)
  refine eX 14 5 7 8 9 10 13 3 6 12 E.b 80 #[.pointer (some ⟨E.b,0,none⟩),.int .i64 1] (fun _=>False) (fun W=>RS E W (aj [91] s)) (fun t W=>t=x1/\RS E W s1)
   jZ dO uf bq E.bL (by omega) fT hR2.L (by omega) (kr E _ _ (by omega) (by omega)) hR2 (fun t=>bD E _ _ _ E.bL E.gL t) (fun t w u hd=>⟨hd.1,hd.2.setCell fT kG u⟩) (fun W hW=>(nK.out W hW).mono fun e w' h=>fH h) ?_ ?_
  ·rintro a w' c _ nL _
   exact absurd nL id
  rintro vals w3 A3 c3 u3 ⟨hu3,gZ⟩ je JO aM rQ
  obtain rfl:=hu3.symm
  dsimp only [bG,List.take_succ_cons,List.take_zero,List.take_nil]
  have hG3:Gr (fun q=>q=E.b\/q=h0\/(Value.slice A ks.length c).ownBlock=some q) w w3:=Gr.wide hG2 JO (fun q hq hs=>hs.elim .inl (fun hs=>hs.elim (fun e=>.inr (.inl e)) (fun e=>(Or.inl e).elim (fun h=>.inr (.inr h)) (fun h=>by omega))))
  obtain ⟨k,hk⟩:=aS (ks ++ [x1])
  have hlk:k.length=ks.length+1:=by rw [<-hk,List.length_append];rfl
  have Di:∀q,(Value.slice A3 k.length c3).ownBlock=some q->(Value.slice A ks.length c).ownBlock=some q\/w.heap.size<=q:=fun q hq=>by
   rw [hlk] at hq
   exact (rQ q hq).elim Or.inl (fun h=>.inr (by omega))
  rw [hk,<-hlk] at je
  rw [<-hlk] at aM
  have ZY:=af hlk
  have HKk:=af hk
  clear hlk hk rQ
  go_wp2_with (first
   |(go_at_call 27;(with_reducible refine (au E _ s1 aB [58] ⟨#[58]⟩ rfl).mono ?_);rintro e w4 ⟨rfl,hg4⟩;rw [HI2.out];have jb:RS E w4 s1:=RS.below aB hg4;have hG4:=aL hG3 hg4;have aW:ag w4 h0 24 (N7 34 op 0 (bs p) (bs t) a (.slice A3 k.length c3)):=ag.aC bz hg4;obtain ⟨_,Ck,_,_,_,_,_,_,Dq⟩:=aW.av;have lG:ah w4 E.L X (.slice A3 k.length c3) k:=ah.aC nR hg4;have JY:ag (w4.setCell ⟨h0,0,none⟩ (.int .i64 35)) h0 24 (N7 35 op 0 (bs p) (bs t) a (.slice A3 k.length c3)):=ag.set0 aW _;have abS:Gr (fun q=>q=E.b\/q=h0\/(Value.slice A ks.length c).ownBlock=some q) w (w4.setCell ⟨h0,0,none⟩ (.int .i64 35)):=Gr.setCell (p:=⟨h0,0,none⟩) hG4 (.inr (.inr (.inl rfl))) _;have OC:ah (w4.setCell ⟨h0,0,none⟩ (.int .i64 35)) E.L X (.slice A3 k.length c3) k:=lG.setCell (p:=⟨h0,0,none⟩) (.inr dO) _)
   |(go_at_call 25;(with_reducible refine (aA E _ s1 aB [58] ⟨#[58]⟩ rfl).mono ?_);rintro e w5 ⟨rfl,jF,hg5⟩;have iw:=nV abS hg5;have aR:=aD JY hg5;obtain ⟨_,_,_,GU,_,_,_,_,zO⟩:=aR.av;have jg:=dU OC hg5;have JV:ag (w5.setCell ⟨h0,2,none⟩ (.int .i64 1)) h0 24 (N7 35 op 1 (bs p) (bs t) a (.slice A3 k.length c3)):=ag.set2 aR _;have Y0:Gr (fun q=>q=E.b\/q=h0\/(Value.slice A ks.length c).ownBlock=some q) w (w5.setCell ⟨h0,2,none⟩ (.int .i64 1)):=Gr.setCell (p:=⟨h0,2,none⟩) iw (.inr (.inr (.inl rfl))) _;have JW:ah (w5.setCell ⟨h0,2,none⟩ (.int .i64 1)) E.L X (.slice A3 k.length c3) k:=jg.setCell (p:=⟨h0,2,none⟩) (.inr dO) _)
   |(go_at_call 27;(with_reducible refine (au E _ (aj [58] s1) aB [93] ⟨#[93]⟩ rfl).mono ?_);rintro e w6 ⟨rfl,dA⟩;rw [HI3.out];have lu:RS E w6 (aj [58] s1):=RS.below aB dA;have iX:=aL Y0 dA;have bE:=bV JV dA;have lH:=mR JW dA)
   |(go_at_call 25;(with_reducible refine (aA E _ (aj [58] s1) aB [93] ⟨#[93]⟩ rfl).mono ?_);rintro e w7 ⟨rfl,o5,dZ⟩;have lV:=nV iX dZ;have dm:=bE.call dZ (by omega);have kH:=dU lH dZ))
  exact bodyPost_end (results_none rfl _ _ _) rfl ⟨rfl,o5,lV,_,_,_,_,_,_,_,_,_,(by rw [<-HKk.out];rfl),dm,kH,Di,by rw [ZY.out];omega⟩
  |false=>
  have HI3:=af hi3
  simp only [hi3,Bool.false_eq_true,if_false] at heq
  obtain ⟨x2,s2,h2,heq⟩:=bF heq
  simp only [Option.some.injEq,Prod.mk.injEq] at heq
  obtain ⟨rfl,rfl⟩:=heq
  have LV:=af (fun W hW=>Hn.expr E W _ 1 x2 s2 (by omega) (by omega) hW h2)
  clear hi3 h2
  go_enter Tryz.func133,Tryz.ntmps133
  obtain ⟨_,YZ,_,_,_,_,_,_,S9⟩:=su.av
  have vO:ag (w.setCell ⟨h0,0,none⟩ (.int .i64 34)) h0 24 (N7 34 op 0 (bs p) (bs t) a (.slice A ks.length c)):=ag.set0 su _
  have JU:Gr (fun q=>q=E.b\/q=h0\/(Value.slice A ks.length c).ownBlock=some q) w (w.setCell ⟨h0,0,none⟩ (.int .i64 34)):=Gr.setCell (p:=⟨h0,0,none⟩) (Gr.refl w) (.inr (.inr (.inl rfl))) _
  have vP:ah (w.setCell ⟨h0,0,none⟩ (.int .i64 34)) E.L X (.slice A ks.length c) ks:=xO.setCell (p:=⟨h0,0,none⟩) (.inr dO) _
  go_wp2_with (first
   |(go_at_call 25;(with_reducible refine (aA E _ s aB [91] ⟨#[91]⟩ rfl).mono ?_);rintro e w1 ⟨rfl,fB,hg1⟩;have hG1:=nV JU hg1;have hs1:=hg1.size;(try simp at hs1);have nY:=aD vO hg1;have qp:=dU vP hg1)
   |(go_at_call 27;(with_reducible refine (au E _ (aj [91] s) aB [58] ⟨#[58]⟩ rfl).mono ?_);rintro e w2 ⟨rfl,hg2⟩;rw [HI1.out];have hR2:RS E w2 (aj [91] s):=RS.below aB hg2;have hG2:=aL hG1 hg2;have hs2:=hg2.size;(try simp at hs2);have ou:=hR2.lt;have ql:=hR2.iy;have bq:=nY.aC hg2;have jZ:=mR qp hg2))
  have uf:∀q,X q->q < w2.heap.size:=fun q hq=>Nat.lt_of_lt_of_le (tZ q hq) (by omega)
  refine eX 14 5 7 8 9 10 13 3 6 12 E.b 80 #[.pointer (some ⟨E.b,0,none⟩),.int .i64 1] (fun _=>False) (fun W=>RS E W (aj [91] s)) (fun t W=>t=x1/\RS E W s1)
   jZ dO uf bq E.bL (by omega) fT hR2.L (by omega) (kr E _ _ (by omega) (by omega)) hR2 (fun t=>bD E _ _ _ E.bL E.gL t) (fun t w u hd=>⟨hd.1,hd.2.setCell fT kG u⟩) (fun W hW=>(nK.out W hW).mono fun e w' h=>fH h) ?_ ?_
  ·rintro a w' c _ nL _
   exact absurd nL id
  rintro vals w3 A3 c3 u3 ⟨hu3,gZ⟩ je JO aM rQ
  obtain rfl:=hu3.symm
  have hs3:=JO.size
  have DC:∀q,X q->q < w3.heap.size:=fun q hq=>Nat.lt_of_lt_of_le (uf q hq) hs3
  dsimp only [bG,List.take_succ_cons,List.take_zero,List.take_nil]
  have hG3:Gr (fun q=>q=E.b\/q=h0\/(Value.slice A ks.length c).ownBlock=some q) w w3:=Gr.wide hG2 JO (fun q hq hs=>hs.elim .inl (fun hs=>hs.elim (fun e=>.inr (.inl e)) (fun e=>(Or.inl e).elim (fun h=>.inr (.inr h)) (fun h=>by omega))))
  obtain ⟨k,hk⟩:=aS (ks ++ [x1])
  have hlk:k.length=ks.length+1:=by rw [<-hk,List.length_append];rfl
  have Di:∀q,(Value.slice A3 k.length c3).ownBlock=some q->(Value.slice A ks.length c).ownBlock=some q\/w.heap.size<=q:=fun q hq=>by
   rw [hlk] at hq
   exact (rQ q hq).elim Or.inl (fun h=>.inr (by omega))
  rw [hk,<-hlk] at je
  rw [<-hlk] at aM
  have ZY:=af hlk
  have HKk:=af hk
  clear hlk hk rQ
  go_wp2_with (first
   |(go_at_call 27;(with_reducible refine (au E _ s1 aB [58] ⟨#[58]⟩ rfl).mono ?_);rintro e w4 ⟨rfl,hg4⟩;rw [HI2.out];have jb:RS E w4 s1:=RS.below aB hg4;have hG4:=aL hG3 hg4;have hs4:=hg4.size;(try simp at hs4);have aW:ag w4 h0 24 (N7 34 op 0 (bs p) (bs t) a (.slice A3 k.length c3)):=ag.aC bz hg4;obtain ⟨_,Ck,_,_,_,_,_,_,Dq⟩:=aW.av;have lG:ah w4 E.L X (.slice A3 k.length c3) k:=ah.aC nR hg4;have JY:ag (w4.setCell ⟨h0,0,none⟩ (.int .i64 35)) h0 24 (N7 35 op 0 (bs p) (bs t) a (.slice A3 k.length c3)):=ag.set0 aW _;have abS:Gr (fun q=>q=E.b\/q=h0\/(Value.slice A ks.length c).ownBlock=some q) w (w4.setCell ⟨h0,0,none⟩ (.int .i64 35)):=Gr.setCell (p:=⟨h0,0,none⟩) hG4 (.inr (.inr (.inl rfl))) _;have OC:ah (w4.setCell ⟨h0,0,none⟩ (.int .i64 35)) E.L X (.slice A3 k.length c3) k:=lG.setCell (p:=⟨h0,0,none⟩) (.inr dO) _)
   |(go_at_call 25;(with_reducible refine (aA E _ s1 aB [58] ⟨#[58]⟩ rfl).mono ?_);rintro e w5 ⟨rfl,jF,hg5⟩;have iw:=nV abS hg5;have hs5:=hg5.size;(try simp at hs5);have aR:=aD JY hg5;obtain ⟨_,_,_,GU,_,_,_,_,zO⟩:=aR.av;have jg:=dU OC hg5;have JV:ag (w5.setCell ⟨h0,2,none⟩ (.int .i64 1)) h0 24 (N7 35 op 1 (bs p) (bs t) a (.slice A3 k.length c3)):=ag.set2 aR _;have Y0:Gr (fun q=>q=E.b\/q=h0\/(Value.slice A ks.length c).ownBlock=some q) w (w5.setCell ⟨h0,2,none⟩ (.int .i64 1)):=Gr.setCell (p:=⟨h0,2,none⟩) iw (.inr (.inr (.inl rfl))) _;have JW:ah (w5.setCell ⟨h0,2,none⟩ (.int .i64 1)) E.L X (.slice A3 k.length c3) k:=jg.setCell (p:=⟨h0,2,none⟩) (.inr dO) _)
   |(go_at_call 27;(with_reducible refine (au E _ (aj [58] s1) aB [93] ⟨#[93]⟩ rfl).mono ?_);rintro e w6 ⟨rfl,dA⟩;rw [HI3.out];have lu:RS E w6 (aj [58] s1):=RS.below aB dA;have iX:=aL Y0 dA;have hs6:=dA.size;(try simp at hs6);have bE:=bV JV dA;obtain ⟨_,_,_,NW,_,_,_,_,Vp⟩:=bE.av;have lH:=mR JW dA;have JZ:ag (w6.setCell ⟨h0,2,none⟩ (.int .i64 3)) h0 24 (N7 35 op 3 (bs p) (bs t) a (.slice A3 k.length c3)):=ag.set2 bE _;have aml:Gr (fun q=>q=E.b\/q=h0\/(Value.slice A ks.length c).ownBlock=some q) w (w6.setCell ⟨h0,2,none⟩ (.int .i64 3)):=Gr.setCell (p:=⟨h0,2,none⟩) iX (.inr (.inr (.inl rfl))) _;have agW:ah (w6.setCell ⟨h0,2,none⟩ (.int .i64 3)) E.L X (.slice A3 k.length c3) k:=lH.setCell (p:=⟨h0,2,none⟩) (.inr dO) _))
  refine nG (P:=fun W=>RS E W (aj [58] s1)/\Gr (fun q=>q=E.b\/q=h0\/(Value.slice A ks.length c).ownBlock=some q) w W/\ag W h0 24 (N7 35 op 3 (bs p) (bs t) a (.slice A3 k.length c3))/\ah W E.L X (.slice A3 k.length c3) k/\w6.heap.size+0<=W.heap.size) ⟨aB,aJ,bz,uu,(by first|(simp;done)|(simp;omega))⟩ ?_
  rintro w7 ⟨o5,lV,dm,kH,hs7⟩
  have Oq:=o5.lt
  have Ot:=o5.iy
  have JQ:∀q,X q->q < w7.heap.size:=fun q hq=>Nat.lt_of_lt_of_le (DC q hq) (by omega)
  refine eX 14 5 7 8 9 10 13 3 6 12 E.b 80 #[.pointer (some ⟨E.b,0,none⟩),.int .i64 1] (fun _=>False) (fun W=>RS E W (aj [58] s1)) (fun t W=>t=x2/\RS E W s2)
   kH dO JQ dm E.bL (by omega) fT o5.L (by rw [ZY.out];omega) (kr E _ _ (by omega) (by omega)) o5 (fun t=>bD E _ _ _ E.bL E.gL t) (fun t w u hd=>⟨hd.1,hd.2.setCell fT kG u⟩) (fun W hW=>(LV.out W hW).mono fun e w' h=>fH h) ?_ ?_
  ·rintro a w' c _ nL _
   exact absurd nL id
  rintro vals w8 A8 c8 u8 ⟨hu8,tY⟩ qy Y1 dV Fv
  obtain rfl:=hu8.symm
  dsimp only [bG,List.take_succ_cons,List.take_zero,List.take_nil]
  have qJ:Gr (fun q=>q=E.b\/q=h0\/(Value.slice A ks.length c).ownBlock=some q) w w8:=Gr.wide lV Y1 (fun q hq hs=>hs.elim .inl (fun hs=>hs.elim (fun e=>.inr (.inl e)) (fun e=>(Di q e).elim (fun h=>.inr (.inr h)) (fun h=>by omega))))
  obtain ⟨kb,hkb⟩:=aS (k ++ [x2])
  have eF:kb.length=k.length+1:=by rw [<-hkb,List.length_append];rfl
  have abT:∀q,(Value.slice A8 kb.length c8).ownBlock=some q->(Value.slice A ks.length c).ownBlock=some q\/w.heap.size<=q:=fun q hq=>by
   rw [eF] at hq
   exact (Fv q hq).elim (Di q) (fun h=>.inr (by omega))
  rw [hkb,<-eF] at qy
  rw [<-eF] at dV
  have VK:=af eF
  have nZ:=af hkb
  clear eF hkb Fv
  go_wp2_with (first
   |(go_at_call 25;(with_reducible refine (aA E _ s2 aB [93] ⟨#[93]⟩ rfl).mono ?_);rintro e w9 ⟨rfl,yT,gP⟩;have wY:=nV qJ gP;have jv:ag w9 h0 24 (N7 35 op 3 (bs p) (bs t) a (.slice A8 kb.length c8)):=bU gP;have zy:ah w9 E.L X (.slice A8 kb.length c8) kb:=vJ gP))
  exact bodyPost_end (results_none rfl _ _ _) rfl ⟨rfl,yT,wY,_,_,_,_,_,_,_,_,_,(by rw [<-nZ.out,<-HKk.out];rfl),jv,zy,abT,by rw [VK.out,ZY.out];omega⟩
theorem GY (n:Nat) (hn:n+10<=cK) (H:∀m,m<=n->qQ m):CM (n+1) 50 .dh:=by
 intro E w s tr s' h heq
 have hlt:=h.lt
 have hgt:=h.iy
 have hbL:=E.bL
 have hEL:=h.L
 have Hn:=H n (Nat.le_refl _)
 have hR0:=h
 simp only [m5] at heq
 obtain ⟨t1,s3,h1,heq⟩:=bF heq
 have nK:=af (fun W hW=>Hn.kind E W _ t1 s3 hW h1)
 clear h1
 cases hi1:bX [61] s3 with
 |false=>
  have HI1:=af hi1
  simp only [hi1,Bool.false_eq_true,if_false,Option.some.injEq,Prod.mk.injEq] at heq
  obtain ⟨rfl,rfl⟩:=heq
  clear hi1
  go_enter Tryz.func50,Tryz.ntmps50
  go_wp2_with (first
   |(go_at_call 25;(with_reducible refine (aA E _ s aB [118,97,114] ⟨#[118,97,114]⟩ rfl).mono ?_);rintro e w1 ⟨rfl,fB,hg1⟩;have hG1:Gr (·=E.b) w w1:=Gr.trans aJ (Gr.mono hg1 (fun _ _ e=>e));have az:ag w1 w.heap.size 24 Z7:=bU hg1)
   |(go_at_call 26;(with_reducible refine (dR E _ (aj [118,97,114] s) aB).mono ?_);rintro e w2 ⟨rfl,hR2,hg2⟩;have hG2:=bP hG1 hg2;have ax:=az.call hg2 (by omega);have jT:=ax.lt)
   |(go_at_call 79;(with_reducible refine (nK.out _ aB).mono ?_);rintro e w3 ⟨hg3,gZ,k3,ng,m3,p3,t3,a3,kC,A3,c3,rfl,rfl,OD⟩;have hG3:=bP hG2 hg3;have hs3:=hg3.size;(try simp at hs3);have zP:=gZ.lt;have aF:=ax.call hg3 (by omega);have je:ah (w3.alloc (.cells #[.int .i64 k3,.int .i64 ng,.int .i64 m3,.string (bs p3),.string (bs t3),.int .i64 a3,.slice A3 kC.length c3] 24)) E.L (fun q=>q < w2.heap.size\/q=w3.heap.size+1) (.slice (some ⟨w3.heap.size,0,none⟩) 1 1) [Tr.mk k3 ng m3 p3 t3 a3 kC]:=((aI.lI (lo:=w2.heap.size) (k:=k3) (op:=ng) (m:=m3) (p:=p3) (t:=t3) (a:=a3) (OD.mono (by simp)) (by omega)).p (fun q hq=>hq.imp id (fun h=>by simp [World.size_alloc];omega))).mono (by omega))
   |(go_at_call 27;(with_reducible refine (au E _ s3 aB [61] ⟨#[61]⟩ rfl).mono ?_);rintro e w4 ⟨rfl,hg4⟩;rw [HI1.out];have jb:RS E w4 s3:=RS.below aB hg4;have hG4:=aL hG3 hg4;have aK:=bV aF hg4;have aW:ag w4 (w3.heap.size+1) 24 (N7 4 0 0 ⟨#[]⟩ (bs (ay (aj [118,97,114] s))) (hdp (aj [118,97,114] s)) (.slice (some ⟨w3.heap.size,0,none⟩) 1 1)):=ag.aC bz hg4;have lG:=mR je hg4)
   |(go_at_call 25;(with_reducible refine (aA E _ s3 aB [59] ⟨#[59]⟩ rfl).mono ?_);rintro e w5 ⟨rfl,jF,hg5⟩;have iw:=bP hG4 hg5;have aT:=aK.call hg5 (by omega);obtain ⟨_,DD,DF,DI,DJ,DK,DL,DN,DR⟩:=aT.av;have aR:=aW.call hg5 (by omega);obtain ⟨_,LB,Ti,GU,Tj,Tm,Tn,yR,_⟩:=aR.av;have jg:=dU lG hg5))
  have cB:(fun q=>q < w2.heap.size\/q=w3.heap.size+1) w.heap.size:=.inl (by omega)
  exact aX Tryz.results50 rfl rfl dS ⟨aJ,aB,4,0,0,[],(ay (aj [118,97,114] s)),(hdp (aj [118,97,114] s)),[Tr.mk k3 ng m3 p3 t3 a3 kC],(some ⟨w3.heap.size,0,none⟩),1,rfl,rfl,(ah.up (lo:=E.L) (X:=(fun q=>q < w2.heap.size\/q=w3.heap.size+1)) (v:=.slice (some ⟨w3.heap.size,0,none⟩) 1 1) (ks:=[Tr.mk k3 ng m3 p3 t3 a3 kC]) uu (fun q hq=>by have:¬(q < w2.heap.size\/q=w3.heap.size+1):=hq;omega))⟩
 |true=>
  have HI1:=af hi1
  simp only [hi1,if_true] at heq
  obtain ⟨x2,s4,h2,heq⟩:=bF heq
  simp only [Option.some.injEq,Prod.mk.injEq] at heq
  obtain ⟨rfl,rfl⟩:=heq
  have LV:=af (fun W hW=>Hn.expr E W _ 1 x2 s4 (by omega) (by omega) hW h2)
  clear hi1 h2
  go_enter Tryz.func50,Tryz.ntmps50
  go_wp2_with (first
   |(go_at_call 25;(with_reducible refine (aA E _ s aB [118,97,114] ⟨#[118,97,114]⟩ rfl).mono ?_);rintro e w1 ⟨rfl,fB,hg1⟩;have hG1:Gr (·=E.b) w w1:=Gr.trans aJ (Gr.mono hg1 (fun _ _ e=>e));have az:ag w1 w.heap.size 24 Z7:=bU hg1)
   |(go_at_call 26;(with_reducible refine (dR E _ (aj [118,97,114] s) aB).mono ?_);rintro e w2 ⟨rfl,hR2,hg2⟩;have hG2:=bP hG1 hg2;have ax:=az.call hg2 (by omega);have jT:=ax.lt)
   |(go_at_call 79;(with_reducible refine (nK.out _ aB).mono ?_);rintro e w3 ⟨hg3,gZ,k3,ng,m3,p3,t3,a3,kC,A3,c3,rfl,rfl,OD⟩;have hG3:=bP hG2 hg3;have hs3:=hg3.size;(try simp at hs3);have zP:=gZ.lt;have Du:=gZ.iy;have aF:=ax.call hg3 (by omega);have uX:=aF.lt;have je:ah (w3.alloc (.cells #[.int .i64 k3,.int .i64 ng,.int .i64 m3,.string (bs p3),.string (bs t3),.int .i64 a3,.slice A3 kC.length c3] 24)) E.L (fun q=>q < w2.heap.size\/q=w3.heap.size+1) (.slice (some ⟨w3.heap.size,0,none⟩) 1 1) [Tr.mk k3 ng m3 p3 t3 a3 kC]:=((aI.lI (lo:=w2.heap.size) (k:=k3) (op:=ng) (m:=m3) (p:=p3) (t:=t3) (a:=a3) (OD.mono (by simp)) (by omega)).p (fun q hq=>hq.imp id (fun h=>by simp [World.size_alloc];omega))).mono (by omega))
   |(go_at_call 27;(with_reducible refine (au E _ s3 aB [61] ⟨#[61]⟩ rfl).mono ?_);rintro e w4 ⟨rfl,hg4⟩;rw [HI1.out];have jb:RS E w4 s3:=RS.below aB hg4;have hG4:=aL hG3 hg4;have aK:=bV aF hg4;have aW:ag w4 (w3.heap.size+1) 24 (N7 4 0 0 ⟨#[]⟩ (bs (ay (aj [118,97,114] s))) (hdp (aj [118,97,114] s)) (.slice (some ⟨w3.heap.size,0,none⟩) 1 1)):=ag.aC bz hg4;have lG:=mR je hg4)
   |(go_at_call 25;(with_reducible refine (aA E _ s3 aB [61] ⟨#[61]⟩ rfl).mono ?_);rintro e w5 ⟨rfl,jF,hg5⟩;have iw:=bP hG4 hg5;have Js:=jF.lt;have Jt:=jF.iy;have aT:=aK.call hg5 (by omega);have aR:=aW.call hg5 (by omega);have wI:=aR.lt;have jg:=dU lG hg5))
  have OE:∀q,(fun q=>q < w2.heap.size\/q=w3.heap.size+1) q->q < w5.heap.size:=fun q hq=>by have:q < w2.heap.size\/q=w3.heap.size+1:=hq;omega
  have DU:∀q,(Value.slice (some ⟨w3.heap.size,0,none⟩) 1 1).ownBlock=some q->w.heap.size<=q:=fun q e=>by have e2:w3.heap.size=q:=Option.some.inj e;omega
  have dO:(fun q=>q < w2.heap.size\/q=w3.heap.size+1) (w3.heap.size+1):=.inr rfl
  have cB:(fun q=>q < w2.heap.size\/q=w3.heap.size+1) w.heap.size:=.inl (by omega)
  have fT:w3.heap.size+1≠E.b:=by omega
  have kG:w3.heap.size+1≠E.g:=by omega
  obtain ⟨_,_,_,_,_,_,_,yR,zO⟩:=aR.av
  refine dD E.b E.L (w3.heap.size+1) (.pointer (some ⟨E.b,0,none⟩)) 80 #[.pointer (some ⟨E.b,0,none⟩),.int .i64 1] (fun _=>False) (fun t W=>t=x2/\RS E W s4) (jg.x dO) jg OE yR (zO 6) E.bL aR.lt jF.L fT (by simp [cK]) (fun t=>bD E _ _ _ (by omega) (by omega) t) (fun t=>bD E _ _ _ E.bL E.gL t) ((LV.out w5.drew jF.drew).mono fun e w' h=>fH h) ?_ ?_
  ·rintro a w' c _ nL _
   exact absurd nL id
  rintro vals w' A6 c6 u6 ⟨hu6,qx⟩ _ hpx hgx eB hgo
  obtain rfl:=hu6.symm
  obtain ⟨w6,hW⟩:=aS (w'.setCell ⟨w3.heap.size+1,6,none⟩ (.slice A6 ([Tr.mk k3 ng m3 p3 t3 a3 kC].length+1) c6))
  have hsx:=eB.size
  have lu:RS E w6 s4:=hW▸qx.setCell (p:=⟨w3.heap.size+1,6,none⟩) fT kG _
  have iX:Gr (·=E.b) w w6:=hW▸Gr.setCell (p:=⟨w3.heap.size+1,6,none⟩) (jD iw eB DU) (.inl (by show w.heap.size<=w3.heap.size+1;omega)) _
  have OG:∀q,(Value.slice A6 ([Tr.mk k3 ng m3 p3 t3 a3 kC].length+1) c6).ownBlock=some q->w.heap.size<=q:=fun q hq=>(hgo q hq).elim (DU q) (fun h=>by have:=iw.size;omega)
  have bE:ag w6 (w3.heap.size+1) 24 (N7 4 0 0 ⟨#[]⟩ (bs (ay (aj [118,97,114] s))) (hdp (aj [118,97,114] s)) (.slice A6 ([Tr.mk k3 ng m3 p3 t3 a3 kC].length+1) c6)):=hW▸ag.jC (ag.wx aR eB fT (fun e=>jg.1 _ e dO)) _
  have bn:ag w6 w.heap.size 24 Z7:=hW▸ag.far (ag.wx aT eB (by omega) (fun e=>jg.1 _ e cB)) (by show w.heap.size≠w3.heap.size+1;omega) _
  have lH:ah w6 E.L (fun q=>q < w2.heap.size\/q=w3.heap.size+1) (.slice A6 ([Tr.mk k3 ng m3 p3 t3 a3 kC].length+1) c6) ([Tr.mk k3 ng m3 p3 t3 a3 kC] ++ [x2]):=hW▸hpx.setCell (p:=⟨w3.heap.size+1,6,none⟩) (.inr dO) _
  rw [hW]
  clear hW qx hpx hgx eB hgo hsx
  obtain ⟨kb,hkb⟩:=aS ([Tr.mk k3 ng m3 p3 t3 a3 kC] ++ [x2])
  have eF:kb.length=[Tr.mk k3 ng m3 p3 t3 a3 kC].length+1:=by rw [<-hkb,List.length_append];rfl
  rw [hkb,<-eF] at lH
  rw [<-eF] at bE
  try rw [<-eF] at OG
  have nZ:=af hkb
  clear eF hkb
  go_wp2_with (first
   |(go_at_call 25;(with_reducible refine (aA E _ s4 aB [59] ⟨#[59]⟩ rfl).mono ?_);rintro e w7 ⟨rfl,o5,dZ⟩;have lV:=bP iX dZ;have bW:=aD bn dZ;obtain ⟨_,EO,EP,ER,ES,ET,EU,EW,EX⟩:=bW.av;have dm:ag w7 (w3.heap.size+1) 24 (N7 4 0 0 ⟨#[]⟩ (bs (ay (aj [118,97,114] s))) (hdp (aj [118,97,114] s)) (.slice A6 kb.length c6)):=bU dZ;obtain ⟨_,Lx,Vg,Vh,Vi,Vj,Vk,GQ,_⟩:=dm.av;have kH:ah w7 E.L (fun q=>q < w2.heap.size\/q=w3.heap.size+1) (.slice A6 kb.length c6) kb:=vJ dZ))
  exact aX Tryz.results50 rfl rfl dS ⟨aJ,aB,4,0,0,[],(ay (aj [118,97,114] s)),(hdp (aj [118,97,114] s)),kb,A6,c6,(by rw [<-nZ.out];rfl),rfl,(ah.up (lo:=E.L) (X:=(fun q=>q < w2.heap.size\/q=w3.heap.size+1)) (v:=.slice A6 kb.length c6) (ks:=kb) uu (fun q hq=>by have:¬(q < w2.heap.size\/q=w3.heap.size+1):=hq;omega))⟩
theorem OH (n:Nat) (hn:n+10<=cK) (H:∀m,m<=n->qQ m):CM (n+1) 139 .round:=by
 intro E w s tr s' h heq
 have hlt:=h.lt
 have hgt:=h.iy
 have hbL:=E.bL
 have hEL:=h.L
 have Hn:=H n (Nat.le_refl _)
 have hR0:=h
 simp only [m5] at heq
 cases hi1:bX [42] (aj [40] s) with
 |false=>
  have HI1:=af hi1
  simp only [hi1,Bool.false_eq_true,if_false] at heq
  obtain ⟨x1,s1,h1,heq⟩:=bF heq
  simp only [Option.some.injEq,Prod.mk.injEq] at heq
  obtain ⟨rfl,rfl⟩:=heq
  have nK:=af (fun (W:World) (hW:RS E W (aj [40] s))=>show Calls Tryz.prog 80 #[.pointer (some ⟨E.b,0,none⟩),.int .i64 1] W (wH E W W.heap.size x1 s1) from Hn.expr E W _ 1 x1 s1 (by omega) (by omega) hW h1)
  clear hi1 h1
  go_enter Tryz.func139,Tryz.ntmps139
  go_wp2_with (first
   |(go_at_call 25;(with_reducible refine (aA E _ s aB [40] ⟨#[40]⟩ rfl).mono ?_);rintro e w1 ⟨rfl,fB,hg1⟩;have hG1:Gr (·=E.b) w w1:=Gr.trans aJ (Gr.mono hg1 (fun _ _ e=>e));have az:ag w1 w.heap.size 24 Z7:=bU hg1)
   |(go_at_call 27;(with_reducible refine (au E _ (aj [40] s) aB [42] ⟨#[42]⟩ rfl).mono ?_);rintro e w2 ⟨rfl,hg2⟩;rw [HI1.out];have hR2:RS E w2 (aj [40] s):=RS.below aB hg2;have hG2:=aL hG1 hg2;have ou:=hR2.lt;have ax:=az.aC hg2;have jT:=ax.lt)
   |(go_at_call 80;(with_reducible refine (nK.out _ aB).mono ?_);rintro e w3 ⟨hg3,gZ,k3,ng,m3,p3,t3,a3,kC,A3,c3,rfl,rfl,OD⟩;have hG3:=bP hG2 hg3;have zP:=gZ.lt;have aF:=ax.call hg3 (by omega);have adM:=OD.mono (lo':=w2.heap.size) (by first|(simp;omega)|omega))
   |(go_at_call 25;(with_reducible refine (aA E _ s1 aB [41] ⟨#[41]⟩ rfl).mono ?_);rintro e w4 ⟨rfl,jb,hg4⟩;have hG4:=bP hG3 hg4;have aK:=aD aF hg4;obtain ⟨_,wO,xC,xD,xE,xG,xH,xI,wP⟩:=aK.av;have sj:ag w4 w3.heap.size 24 (N7 k3 ng m3 (bs p3) (bs t3) a3 (.slice A3 kC.length c3)):=bU hg4;obtain ⟨_,amm,amn,amo,amq,amr,ams,amt,_⟩:=sj.av;have VL:aI w4 w2.heap.size (.slice A3 kC.length c3) kC:=aI.call (b:=E.b) nS hg4 (by omega)))
  exact aX Tryz.results139 rfl rfl dS ⟨aJ,aB,k3,ng,m3,p3,t3,a3,kC,A3,c3,rfl,rfl,aI.mono (lo:=w2.heap.size) (v:=.slice A3 kC.length c3) (ks:=kC) nS (by omega)⟩
 |true=>
  have HI1:=af hi1
  simp only [hi1,if_true,Option.some.injEq,Prod.mk.injEq] at heq
  obtain ⟨rfl,rfl⟩:=heq
  clear hi1
  go_enter Tryz.func139,Tryz.ntmps139
  go_wp2_with (first
   |(go_at_call 25;(with_reducible refine (aA E _ s aB [40] ⟨#[40]⟩ rfl).mono ?_);rintro e w1 ⟨rfl,fB,hg1⟩;have hG1:Gr (·=E.b) w w1:=Gr.trans aJ (Gr.mono hg1 (fun _ _ e=>e));have az:ag w1 w.heap.size 24 Z7:=bU hg1)
   |(go_at_call 27;(with_reducible refine (au E _ (aj [40] s) aB [42] ⟨#[42]⟩ rfl).mono ?_);rintro e w2 ⟨rfl,hg2⟩;rw [HI1.out];have hR2:RS E w2 (aj [40] s):=RS.below aB hg2;have hG2:=aL hG1 hg2;have ax:=az.aC hg2)
   |(go_at_call 25;(with_reducible refine (aA E _ (aj [40] s) aB [42] ⟨#[42]⟩ rfl).mono ?_);rintro e w3 ⟨rfl,gZ,hg3⟩;have hG3:=bP hG2 hg3;have aF:=ax.call hg3 (by omega);have uX:=aF.lt)
   |(go_at_call 94;(with_reducible refine (Ba E _ (aj [42] (aj [40] s)) aB).mono ?_);rintro e w4 ⟨hg4,jb,k4,Cn,m4,p4,t4,a4,BQ,A4,c4,ht4,rfl,OI⟩;have HT4:=af ht4;clear ht4;have hG4:=bP hG3 hg4;have hs4:=hg4.size;(try simp at hs4);have LM:=jb.lt;have JK:=jb.iy;have aK:=aF.call hg4 (by omega);have Fb:=aK.lt;have lG:ah (w4.alloc (.cells #[.int .i64 k4,.int .i64 Cn,.int .i64 m4,.string (bs p4),.string (bs t4),.int .i64 a4,.slice A4 BQ.length c4] 24)) E.L (fun q=>q < w3.heap.size\/q=w4.heap.size+1) (.slice (some ⟨w4.heap.size,0,none⟩) 1 1) [Tr.mk k4 Cn m4 p4 t4 a4 BQ]:=((aI.lI (lo:=w3.heap.size) (k:=k4) (op:=Cn) (m:=m4) (p:=p4) (t:=t4) (a:=a4) (OI.mono (by simp)) (by omega)).p (fun q hq=>hq.imp id (fun h=>by simp [World.size_alloc];omega))).mono (by omega))
   |(go_at_call 25;(with_reducible refine (aA E _ (gq (aj [42] (aj [40] s))) aB [41] ⟨#[41]⟩ rfl).mono ?_);rintro e w5 ⟨rfl,jF,hg5⟩;have iw:=bP hG4 hg5;have aT:=aD aK hg5;have aR:ag w5 (w4.heap.size+1) 24 (N7 42 0 0 ⟨#[]⟩ ⟨#[]⟩ (hdp s) (.slice (some ⟨w4.heap.size,0,none⟩) 1 1)):=bU hg5;have jg:=dU lG hg5)
   |(go_at_call 25;(with_reducible refine (aA E _ (aj [41] (gq (aj [42] (aj [40] s)))) aB [46] ⟨#[46]⟩ rfl).mono ?_);rintro e w6 ⟨rfl,lu,dA⟩;have iX:=bP iw dA;have bn:=aT.call dA (by omega);have bE:=aR.call dA (by omega);have lH:=dU jg dA)
   |(go_at_call 26;(with_reducible refine (dR E _ (aj [46] (aj [41] (gq (aj [42] (aj [40] s))))) aB).mono ?_);rintro e w7 ⟨rfl,o5,dZ⟩;have lV:=bP iX dZ;have bW:=bn.call dZ (by omega);obtain ⟨_,EO,EP,ER,ES,ET,EU,EW,EX⟩:=bW.av;have dm:=bE.call dZ (by omega);obtain ⟨_,Lx,Vg,Vh,Vi,Vj,Vk,GQ,Tp⟩:=dm.av;have kH:=dU lH dZ))
  have cB:(fun q=>q < w3.heap.size\/q=w4.heap.size+1) w.heap.size:=.inl (by omega)
  have aiL:(fun q=>q < w3.heap.size\/q=w4.heap.size+1) (w4.heap.size+1):=.inr rfl
  exact aX Tryz.results139 rfl rfl dS ⟨aJ,aB,42,0,0,[],(ay (aj [46] (aj [41] (gq (aj [42] (aj [40] s)))))),(hdp s),[Tr.mk k4 Cn m4 p4 t4 a4 BQ],(some ⟨w4.heap.size,0,none⟩),1,(by rw [HT4.out]),rfl,(ah.up (lo:=E.L) (X:=(fun q=>q < w3.heap.size\/q=w4.heap.size+1)) (v:=.slice (some ⟨w4.heap.size,0,none⟩) 1 1) (ks:=[Tr.mk k4 Cn m4 p4 t4 a4 BQ]) uu (fun q hq=>by have:¬(q < w3.heap.size\/q=w4.heap.size+1):=hq;omega))⟩
theorem lC {w W W':World} {b h:Nat} {v:Value} (h1:Gr (·=b) w W) (h2:Gr (fun q=>q=b\/q=h\/v.ownBlock=some q) W W') (h3:w.heap.size<=h) (h4:∀q,v.ownBlock=some q->w.heap.size<=q):Gr (·=b) w W':=
 Gr.wide h1 h2 (fun q hq hs=>hs.elim id (fun hs=>hs.elim (fun e=>by omega) (fun e=>by have:=h4 q e;omega)))
theorem OJ (n:Nat) (hn:n+10<=cK) (H:∀m,m<=n->qQ m):CM (n+1) 134 .great:=by
 intro E w s tr s' h heq
 have hlt:=h.lt
 have hgt:=h.iy
 have hbL:=E.bL
 have Hn:=H n (Nat.le_refl _)
 have hR0:=h
 simp only [m5] at heq
 go_enter Tryz.func134,Tryz.ntmps134
 go_wp2
 refine nG (P:=fun W=>RS E W s/\Gr (·=E.b) w W/\ag W w.heap.size 24 Z7/\w.heap.size+1<=W.heap.size) ⟨aB,aJ,bz,(by first|(simp;done)|(simp;omega))⟩ ?_
 rintro w1 ⟨fB,hG1,az,hs1⟩
 have kW:=fB.lt
 obtain ⟨j,hj,hjl,k0,k1,k2,k3,k4,q0,q1,q2,q3,fz⟩:=fB.here
 have hlt:=fB.lt
 have hgl:=fB.iy
 have hll:=fB.len
 have hne:=fB.ne
 clear fz hj
 obtain ⟨B,hB⟩:=aS E.b
 obtain ⟨G,hG⟩:=aS E.g
 obtain ⟨N,hN⟩:=aS E.ts.length
 obtain ⟨C,hC⟩:=aS E.c
 obtain ⟨so,hso⟩:=aS s.o
 obtain ⟨se,hse⟩:=aS s.e
 obtain ⟨sp,hsp⟩:=aS s.p
 obtain ⟨tk,htk⟩:=aS (hd s.l).1.k
 obtain ⟨tt,rP⟩:=aS (hd s.l).1.t
 obtain ⟨tn,htn⟩:=aS (hd s.l).1.n
 obtain ⟨tp,htp⟩:=aS (hd s.l).2
 rw [hB] at k0 k1 k2 k3 k4 hlt
 rw [hG,hN,hC] at k0
 rw [hso] at k2
 rw [hse] at k3
 rw [hsp] at k4
 rw [hG,htk] at q0
 rw [hG,rP] at q1
 rw [hG,htn] at q2
 rw [hG,htp] at q3
 rw [hG] at hgl
 rw [hN] at hjl hll
 rw [hG,hB] at hne
 have j0:(0:Int)<=(j:Int):=by omega
 have j1:(j:Int) < (N:Int):=by omega
 have j2:(j:Int)<=8193:=by omega
 have Li:=af htk
 have Sq:=af rP
 have U3:=af htn
 have GI:=af htp
 have LW:=af hB
 rw [hB]
 clear hB hG hN hC hso hse hsp htk rP htn htp
 refine wp_region_held_drew (S:=fun V=>Below w1.heap.size w1 V) (by kernel_rfl) (Below.refl _ w1).drew (fun hS0=>?_)
 refine aQ 0 hS0 ?_
 refine aQ 1 hS0 ?_
 refine aQ 2 hS0 ?_
 refine jS 3 hS0 ?_ (fun w' hS=>(hS.cell (p:=⟨B,0,none⟩) hlt).trans k0)
 refine aQ 4 hS0 ?_
 refine aQ 5 hS0 ?_
 refine aQ 6 hS0 ?_
 refine jS 7 hS0 ?_ (fun w' hS=>(hS.cell (p:=⟨B,1,none⟩) hlt).trans k1)
 refine aQ 8 hS0 ?_
 refine oU 9 hS0 ?_ (he:=fun w' hS=>by (have y0:=(hS.cell (p:=⟨G,_,none⟩) hgl).trans q0;have y1:=(hS.cell (p:=⟨G,_,none⟩) hgl).trans q1;have y2:=(hS.cell (p:=⟨G,_,none⟩) hgl).trans q2;have y3:=(hS.cell (p:=⟨G,_,none⟩) hgl).trans q3;unfold execOp;go_simp;first|done|exact rfl))
 refine oI 10 rfl (aY (v:=.pointer (some ⟨w1.heap.size,0,none⟩)) (w':=(w1.drew.alloc (.cells #[.int .i64 0,.string ⟨#[]⟩,.int .i64 0,.int .i64 0] 53))) (by unfold execOp;go_simp) (And.intro ((Below.refl _ w1).drew.alloc (by simp) _) ?_))
 simp only [Act.put,List.getElem_toArray,List.getElem_cons_zero,List.getElem_cons_succ,List.setIfInBounds_toArray,List.set_cons_zero,List.set_cons_succ]
 obtain ⟨w2,qg⟩:=aS (((((w1.drew.alloc (.cells #[.int .i64 0,.string ⟨#[]⟩,.int .i64 0,.int .i64 0] 53)).setCell ⟨w1.heap.size,0,none⟩ (.int .i64 tk)).setCell ⟨w1.heap.size,1,none⟩ (.string (bs tt))).setCell ⟨w1.heap.size,2,none⟩ (.int .i64 tn)).setCell ⟨w1.heap.size,3,none⟩ (.int .i64 tp))
 have hbw2:Below w1.heap.size w1 w2:=qg▸um w1 _ _ _ _
 have vQ:ag w2 w1.heap.size 53 (T4 tk (bs tt) tn tp):=qg▸uo w1 _ _ _ _
 refine oI 11 rfl (mU (w':=w2) (by rw [<-qg];unfold execOp;go_simp) (And.intro hbw2 ?_))
 simp only [Act.put,List.getElem_toArray,List.getElem_cons_zero,List.getElem_cons_succ,List.setIfInBounds_toArray,List.set_cons_zero,List.set_cons_succ]
 refine eZ ?_
 clear qg hS0 k0 k1 k2 k3 k4 q0 q1 q2 q3 j0 j1 j2 hjl hll hne hlt hgl
 rw [<-Li.out,<-Sq.out,<-U3.out,<-GI.out] at vQ
 rw [<-LW.out]
 have hR2:RS E w2 s:=fB.below hbw2
 have hG2:Gr (·=E.b) w w2:=Gr.trans hG1 (Gr.of_below hbw2)
 have nT:ag w2 w1.heap.size 53 (T4 ((hd s.l).1.k) (bs (hd s.l).1.t) ((hd s.l).1.n) ((hd s.l).2)):=vQ
 have ax:ag w2 w.heap.size 24 Z7:=ag.aC az hbw2
 clear vQ hbw2
 cases hi1:bX [40] s with
 |true=>
  have HI1:=af hi1
  simp only [hi1,if_true] at heq
  have nK:=af (fun W hW=>Hn.round E W _ tr s' hW heq)
  clear hi1 heq
  go_wp2_with (first
   |(go_at_call 27;(with_reducible refine (au E _ s aB [40] ⟨#[40]⟩ rfl).mono ?_);rintro e w3 ⟨rfl,hg3⟩;rw [HI1.out];have gZ:=bA hR2 hg3;have hG3:=aL hG2 hg3;have aF:=bV ax hg3;have uX:=aF.lt;have jh:=bV nT hg3)
   |(go_at_call 139;(with_reducible refine (nK.out _ aB).mono ?_);rintro e w4 ⟨hg4,jb,k4,Cn,m4,p4,t4,a4,BQ,A4,c4,rfl,rfl,OI⟩;have hG4:=bP hG3 hg4;have aK:=aF.call hg4 (by omega);obtain ⟨_,wO,xC,xD,xE,xG,xH,xI,wP⟩:=aK.av;have VL:=OI.mono (lo':=w3.heap.size) (by simp)))
  exact aX Tryz.results134 rfl rfl dS ⟨aJ,aB,k4,Cn,m4,p4,t4,a4,BQ,A4,c4,rfl,rfl,aI.mono (lo:=w3.heap.size) (v:=.slice A4 BQ.length c4) (ks:=BQ) nS (by omega)⟩
 |false=>
 have HI1:=af hi1
 simp only [hi1,Bool.false_eq_true,if_false] at heq
 clear hi1
 go_wp2_with (first
  |(go_at_call 27;(with_reducible refine (au E _ s aB [40] ⟨#[40]⟩ rfl).mono ?_);rintro e w3 ⟨rfl,hg3⟩;rw [HI1.out];have gZ:=bA hR2 hg3;have hG3:=aL hG2 hg3;have aF:=bV ax hg3;have jh:=bV nT hg3))
 cases hi2:bX [91] s with
 |true=>
  have HI2:=af hi2
  simp only [hi2,if_true] at heq
  clear hi2
  by_cases he:(aj [93] (aj [91] s)).e=0
  case neg=>
   rw [if_neg he] at heq
   simp only [Option.some.injEq,Prod.mk.injEq] at heq
   obtain ⟨rfl,rfl⟩:=heq
   have e1:((aj [93] (aj [91] s)).e != 0)=true:=by simpa using he
   clear he
   go_wp2_with (first
    |(go_at_call 27;(with_reducible refine (au E _ s aB [91] ⟨#[91]⟩ rfl).mono ?_);rintro e w4 ⟨rfl,hg4⟩;rw [HI2.out];have jb:=bA gZ hg4;have hG4:=aL hG3 hg4;have aK:=aF.aC hg4;have iq:=jh.aC hg4)
    |(go_at_call 25;(with_reducible refine (aA E _ s aB [91] ⟨#[91]⟩ rfl).mono ?_);rintro e w5 ⟨rfl,jF,hg5⟩;have iw:=bP hG4 hg5;have Js:=jF.lt;have aT:=aK.call hg5 (by omega);have gU:=iq.call hg5 (by omega))
    |(go_at_call 25;(with_reducible refine (aA E _ (aj [91] s) aB [93] ⟨#[93]⟩ rfl).mono ?_);rintro e w6 ⟨rfl,lu,dA⟩;have iX:=bP iw dA;have bn:=aD aT dA;obtain ⟨_,Jw,Jy,Jz,JC,JF,JG,JH,JI⟩:=bn.av;have bE:ag w6 w5.heap.size 24 (N7 40 0 0 ⟨#[]⟩ ⟨#[]⟩ (hdp s) (.slice none 0 0)):=bU dA;obtain ⟨_,NV,Vl,NW,Vm,Vn,Vo,NY,_⟩:=bE.av;obtain ⟨_,_,_,_,_,_,adN,_⟩:=lu.here))
   exact aX Tryz.results134 rfl rfl dS ⟨aJ,aB,40,0,0,[],[],(hdp s),[],none,0,rfl,rfl,aI.nil _ _ 0⟩
  rw [if_pos he] at heq
  obtain ⟨t1,s1,h1,hq⟩:=bF heq
  have HE:=af he
  have nK:=af (fun W hW=>Hn.kind E W _ t1 s1 hW h1)
  have HQ:=af hq
  clear heq he h1 hq
  go_wp2_with (first
   |(go_at_call 27;(with_reducible refine (au E _ s aB [91] ⟨#[91]⟩ rfl).mono ?_);rintro e w4 ⟨rfl,hg4⟩;rw [HI2.out];have jb:=bA gZ hg4;have hG4:=aL hG3 hg4;have aK:=aF.aC hg4;have iq:=jh.aC hg4)
   |(go_at_call 25;(with_reducible refine (aA E _ s aB [91] ⟨#[91]⟩ rfl).mono ?_);rintro e w5 ⟨rfl,jF,hg5⟩;have iw:=bP hG4 hg5;have Js:=jF.lt;have Jt:=jF.iy;have aT:=aK.call hg5 (by omega);have EN:=aT.lt;have gU:=iq.call hg5 (by omega);have adO:=gU.lt)
   |(go_at_call 25;(with_reducible refine (aA E _ (aj [91] s) aB [93] ⟨#[93]⟩ rfl).mono ?_);rintro e w6 ⟨rfl,lu,dA⟩;have iX:=bP iw dA;have hs6:=dA.size;(try simp at hs6);have Tc:=lu.lt;have Ou:=lu.iy;have bn:=aD aT dA;have gI:=aD gU dA;have bE:ag w6 w5.heap.size 24 (N7 40 0 0 ⟨#[]⟩ ⟨#[]⟩ (hdp s) (.slice none 0 0)):=bU dA;obtain ⟨_,_,_,_,_,_,adN,_⟩:=lu.here;rw [HE.out] at adN))
  have DT:∀q,(fun q=>q<=w5.heap.size) q->q < w6.heap.size:=fun q hq=>by have:q<=w5.heap.size:=hq;omega
  have dO:(fun q=>q<=w5.heap.size) w5.heap.size:=Nat.le_refl _
  have cB:(fun q=>q<=w5.heap.size) w.heap.size:=by show w.heap.size<=w5.heap.size;omega
  have ve:(fun q=>q<=w5.heap.size) w1.heap.size:=by show w1.heap.size<=w5.heap.size;omega
  have fT:w5.heap.size≠E.b:=by omega
  have kG:w5.heap.size≠E.g:=by omega
  have lH:ah w6 E.L (fun q=>q<=w5.heap.size) (.slice none 0 0) ([]:List Tr):=ah.none_ _ _ _
  refine eX 11 3 5 6 7 8 10 1 4 9 E.b 79 #[.pointer (some ⟨E.b,0,none⟩)] (fun _=>False) (fun W=>RS E W (aj [93] (aj [91] s))) (fun t W=>t=t1/\RS E W s1)
   lH dO DT bE E.bL (by omega) fT lu.L (by simp [cK]) (kr E _ _ (by omega) (by omega)) lu (fun t=>bD E _ _ _ E.bL E.gL t) (fun t w u hd=>⟨hd.1,hd.2.setCell fT kG u⟩) (fun W hW=>(nK.out W hW).mono fun e w' h=>fH h) ?_ ?_
  ·rintro a w' c _ nL _
   exact absurd nL id
  rintro vals w7 A7 c7 u7 ⟨hu7,o5⟩ kH JX dm xR
  obtain rfl:=hu7.symm
  have hs7:=JX.size
  have JQ:∀q,((fun q=>q<=w5.heap.size)) q->q < w7.heap.size:=fun q hq=>Nat.lt_of_lt_of_le (DT q hq) hs7
  dsimp only [bG,List.take_succ_cons,List.take_zero,List.take_nil]
  have lV:Gr (·=E.b) w w7:=lC (v:=.slice none 0 0) iX JX (by omega) (fun q e=>by cases e)
  have bW:=JX.blk bn (fun e=>e.elim (fun e=>by omega) (fun e=>e.elim (fun e=>by omega) (fun e=>by cases e)))
  have jJ:=JX.blk gI (fun e=>e.elim (fun e=>by omega) (fun e=>e.elim (fun e=>by omega) (fun e=>by cases e)))
  have ZZ:∀q,(Value.slice A7 1 c7).ownBlock=some q->w.heap.size<=q:=fun q hq=>(xR q hq).elim (fun e=>by cases e) (fun h=>by omega)
  have VM:ag w7 w5.heap.size 24 (N7 40 0 0 ⟨#[]⟩ ⟨#[]⟩ (hdp s) (.slice A7 1 c7)):=dm
  have VN:ah w7 E.L (fun q=>q<=w5.heap.size) (.slice A7 1 c7) [t1]:=kH
  clear dm kH xR
  have dm:=VM
  have kH:=VN
  have xR:=ZZ
  clear VM VN ZZ
  have Tq:=af (fun (W:World) (hW:RS E W (aj [123] s1)) (hb:ag W w5.heap.size 24 (N7 40 0 0 ⟨#[]⟩ ⟨#[]⟩ (hdp s) (.slice A7 1 c7))) (hp:ah W E.L (fun q=>q<=w5.heap.size) (.slice A7 1 c7) [t1]) (EG:∀q,(fun q=>q<=w5.heap.size) q->q < W.heap.size)=>show Calls Tryz.prog 132 #[.pointer (some ⟨E.b,0,none⟩),.pointer (some ⟨w5.heap.size,0,none⟩),.string ⟨#[125]⟩] W (Bb E W w5.heap.size (fun q=>q<=w5.heap.size) (.slice A7 1 c7) (1+n+2) tr s') from Hn.several E W _ w5.heap.size (fun q=>q<=w5.heap.size) 40 0 0 [] [] (hdp s) [t1] A7 c7 [125] _ _ _ hW hb hp dO fT kG EG (by simp only [List.length_singleton];omega) rfl (by simp) HQ.out)
  go_wp2_with (first
   |(go_at_call 25;(with_reducible refine (aA E _ s1 aB [123] ⟨#[123]⟩ rfl).mono ?_);rintro e w8 ⟨rfl,tY,fK⟩;have qJ:=bP lV fK;have hs8:=fK.size;(try simp at hs8);have dK:=aD aK fK;have ji:=aD iq fK;have dV:=aD dm fK;have qy:=dU kH fK)
   |(go_at_call 132;(with_reducible refine (Tq.out _ aB bz nR (fun q hq=>Nat.lt_of_lt_of_le (JQ q hq) (by first|(simp;done)|(simp;omega)|omega))).mono ?_);rintro e w9 ⟨rfl,yT,gP,k9,YY,m9,p9,t9,a9,Te,A9,c9,rfl,jv,zy,_,_⟩;have wY:Gr (·=E.b) w w9:=lC aJ gP (by omega) xR;have gH:ag w9 w.heap.size 24 Z7:=gP.blk bz (fun e=>e.elim (fun e=>by omega) (fun e=>e.elim (fun e=>by omega) (fun e=>(qy).1 _ e cB)));obtain ⟨_,Oh,Vr,SN,Vs,Vt,Vu,Oi,_⟩:=jv.av;obtain ⟨_,SC,SE,SF,SG,SH,SI,SK,SL⟩:=gH.av))
  exact aX Tryz.results134 rfl rfl dS ⟨aJ,aB,k9,YY,m9,p9,t9,a9,Te,A9,c9,rfl,rfl,(ah.up (lo:=E.L) (X:=(fun q=>q<=w5.heap.size)) (v:=.slice A9 Te.length c9) (ks:=Te) uu (fun q hq=>by have:¬q<=w5.heap.size:=hq;omega))⟩
 |false=>
 have HI2:=af hi2
 simp only [hi2,Bool.false_eq_true,if_false] at heq
 clear hi2
 go_wp2_with (first
  |(go_at_call 27;(with_reducible refine (au E _ s aB [91] ⟨#[91]⟩ rfl).mono ?_);rintro e w4 ⟨rfl,hg4⟩;rw [HI2.out];have jb:=bA gZ hg4;have hG4:=aL hG3 hg4;have aK:=aF.aC hg4;have iq:=jh.aC hg4))
 cases hi3:bX [102,117,110,99] s with
 |true=>
  have HI3:=af hi3
  simp only [hi3,if_true] at heq
  obtain ⟨nd,s1,h1,heq⟩:=bF heq
  obtain ⟨x2,s2,h2,heq⟩:=bF heq
  simp only [Option.some.injEq,Prod.mk.injEq] at heq
  obtain ⟨rfl,rfl⟩:=heq
  have HQ:=af h1
  have LV:=af (fun W hW=>Hn.block E W _ x2 s2 hW h2)
  clear hi3 h1 h2
  go_wp2_with (first
   |(go_at_call 27;(with_reducible refine (au E _ s aB [102,117,110,99] ⟨#[102,117,110,99]⟩ rfl).mono ?_);rintro e w5 ⟨rfl,hg5⟩;rw [HI3.out];have jF:=bA jb hg5;have iw:=aL hG4 hg5;have aT:=aK.aC hg5;have gU:=iq.aC hg5)
   |(go_at_call 25;(with_reducible refine (aA E _ s aB [102,117,110,99] ⟨#[102,117,110,99]⟩ rfl).mono ?_);rintro e w6 ⟨rfl,lu,dA⟩;have iX:=bP iw dA;have Tc:=lu.lt;have Ou:=lu.iy;have bn:=aT.call dA (by omega);have IK:=bn.lt;have gI:=gU.call dA (by omega);have aiM:=gI.lt;have DT:∀q,(fun q=>q<=w6.heap.size) q->q < w6.heap.size+1:=(fun q hq=>by have:q<=w6.heap.size:=hq;omega);have dO:(fun q=>q<=w6.heap.size) w6.heap.size:=Nat.le_refl _;have cB:(fun q=>q<=w6.heap.size) w.heap.size:=(by show w.heap.size<=w6.heap.size;omega);have ve:(fun q=>q<=w6.heap.size) w1.heap.size:=(by show w1.heap.size<=w6.heap.size;omega);have fT:w6.heap.size≠E.b:=(by omega);have kG:w6.heap.size≠E.g:=(by omega);have Tq:=af (fun (W:World) (hW:RS E W (aj [102,117,110,99] s)) (hb:ag W w6.heap.size 24 (N7 41 0 0 ⟨#[]⟩ ⟨#[]⟩ (hdp s) (.slice none 0 0))) (hp:ah W E.L (fun q=>q<=w6.heap.size) (.slice none 0 0) ([]:List Tr)) (EG:∀q,(fun q=>q<=w6.heap.size) q->q < W.heap.size)=>show Calls Tryz.prog 83 #[.pointer (some ⟨E.b,0,none⟩),.pointer (some ⟨w6.heap.size,0,none⟩)] W (Bb E W w6.heap.size (fun q=>q<=w6.heap.size) (.slice none 0 0) (0+n+2) nd s1) from Hn.params E W _ w6.heap.size (fun q=>q<=w6.heap.size) 41 0 0 [] [] (hdp s) [] none 0 _ _ hW hb hp dO fT kG EG (by simp only [List.length_nil];omega) HQ.out))
   |(go_at_call 83;(with_reducible refine (Tq.out _ aB bz (ah.none_ _ _ _) (fun q hq=>Nat.lt_of_lt_of_le (DT q hq) (by first|(simp;done)|(simp;omega)|omega))).mono ?_);rintro e w7 ⟨rfl,o5,dZ,k7,VO,m7,p7,t7,a7,yS,A7,c7,rfl,dm,kH,ho7,hn7⟩;have lV:Gr (·=E.b) w w7:=lC aJ dZ (by omega) (fun q e=>by cases e);have hs7:=dZ.size;(try simp at hs7);have Oq:=o5.lt;have Ot:=o5.iy;have xR:∀q,(Value.slice A7 yS.length c7).ownBlock=some q->w.heap.size<=q:=(fun q hq=>(ho7 q hq).elim ((fun q e=>by cases e) q) (fun h=>by first|omega|(simp at h;omega)));have bW:ag w7 w.heap.size 24 Z7:=dZ.blk bz (fun e=>e.elim (fun e=>by omega) (fun e=>e.elim (fun e=>by omega) (fun e=>(by cases e))));have jJ:ag w7 w1.heap.size 53 (T4 ((hd s.l).1.k) (bs (hd s.l).1.t) ((hd s.l).1.n) ((hd s.l).2)):=dZ.blk bz (fun e=>e.elim (fun e=>by omega) (fun e=>e.elim (fun e=>by omega) (fun e=>(by cases e))))))
  have JQ:∀q,(fun q=>q<=w6.heap.size) q->q < w7.heap.size:=fun q hq=>by have:q<=w6.heap.size:=hq;omega
  refine eX 11 3 5 6 7 8 10 1 4 9 E.b 84 #[.pointer (some ⟨E.b,0,none⟩)] (fun _=>False) (fun W=>RS E W s1) (fun t W=>t=x2/\RS E W s2)
   kH dO JQ dm E.bL (by omega) fT o5.L (by have:=hn7;omega) (kr E _ _ (by omega) (by omega)) o5 (fun t=>bD E _ _ _ E.bL E.gL t) (fun t w u hd=>⟨hd.1,hd.2.setCell fT kG u⟩) (fun W hW=>(LV.out W hW).mono fun e w' h=>fH h) ?_ ?_
  ·rintro a w' c _ nL _
   exact absurd nL id
  rintro vals w8 A8 c8 u8 ⟨hu8,tY⟩ qy Y1 dV Fv
  obtain rfl:=hu8.symm
  dsimp only [bG,List.take_succ_cons,List.take_zero,List.take_nil]
  have dK:ag w8 w.heap.size 24 Z7:=Y1.blk bW (fun e=>e.elim (fun e=>by omega) (fun e=>e.elim (fun e=>by omega) (fun e=>kH.1 _ e cB)))
  have qJ:Gr (·=E.b) w w8:=lC (v:=.slice A7 yS.length c7) lV Y1 (by omega) xR
  obtain ⟨kb,hkb⟩:=aS (yS ++ [x2])
  have eF:kb.length=yS.length+1:=by rw [<-hkb,List.length_append];rfl
  rw [hkb,<-eF] at qy
  rw [<-eF] at dV
  have nZ:=af hkb
  clear eF hkb Fv
  obtain ⟨_,LA,Sy,Og,Sz,SA,SB,Dv,_⟩:=dV.av
  obtain ⟨_,NZ,N8,N9,Oa,Ob,Oc,Od,Oe⟩:=dK.av
  go_wp2
  exact aX Tryz.results134 rfl rfl dS ⟨aJ,aB,k7,VO,m7,p7,t7,a7,kb,A8,c8,(by rw [<-nZ.out];rfl),rfl,(ah.up (lo:=E.L) (X:=(fun q=>q<=w6.heap.size)) (v:=.slice A8 kb.length c8) (ks:=kb) uu (fun q hq=>by have:¬q<=w6.heap.size:=hq;omega))⟩
 |false=>
 have HI3:=af hi3
 simp only [hi3,Bool.false_eq_true,if_false] at heq
 clear hi3
 go_wp2_with (first
  |(go_at_call 27;(with_reducible refine (au E _ s aB [102,117,110,99] ⟨#[102,117,110,99]⟩ rfl).mono ?_);rintro e w5 ⟨rfl,hg5⟩;rw [HI3.out];have jF:=bA jb hg5;have iw:=aL hG4 hg5;have hs5:=hg5.size;(try simp at hs5);have Js:=jF.lt;have Jt:=jF.iy;have aT:=aK.aC hg5;have EN:=aT.lt;obtain ⟨_,DD,DF,DI,DJ,DK,DL,DN,DR⟩:=aT.av;have gU:=iq.aC hg5;have adO:=gU.lt;obtain ⟨_,amu,agX,amv,agY,amw⟩:=gU.jX))
 cases hc0:bX [108,101,110] s with
 |true=>
  have Gv:mV s=true:=by unfold mV;simp [hc0]
  rw [if_pos Gv] at heq
  have hkk:=(xz hc0 (by simp)).2.2
  have nK:=af (fun W hW=>Hn.built E W s (hd s.l) tr s' hW hkk heq)
  clear hkk
  have Tt:=af hc0
  clear Gv heq hc0
  go_wp2_with (first
   |(go_at_call 27;(with_reducible refine (au E _ s aB [108,101,110] ⟨#[108,101,110]⟩ rfl).mono ?_);rintro e w6 ⟨rfl,dA⟩;rw [Tt.out];have lu:=bA jF dA;have iX:=aL iw dA;have bn:=aT.aC dA;have IK:=bn.lt;have gI:=gU.aC dA;obtain ⟨_,amx,agZ,amy,amz,_⟩:=gI.jX)
   |(go_at_call 140;(with_reducible refine (nK.out _ aB).mono ?_);rintro e w7 ⟨dZ,o5,k7,VO,m7,p7,t7,a7,yS,A7,c7,rfl,rfl,OL⟩;have lV:=bP iX dZ;have bW:=bn.call dZ (by omega);obtain ⟨_,EO,EP,ER,ES,ET,EU,EW,EX⟩:=bW.av;have VP:=OL.mono (lo':=w6.heap.size) (by simp)))
  exact aX Tryz.results134 rfl rfl dS ⟨aJ,aB,k7,VO,m7,p7,t7,a7,yS,A7,c7,rfl,rfl,aI.mono (lo:=w6.heap.size) (v:=.slice A7 yS.length c7) (ks:=yS) nS (by omega)⟩
 |false=>
 cases hc1:bX [97,112,112,101,110,100] s with
 |true=>
  have Gv:mV s=true:=by unfold mV;simp [hc0,hc1]
  rw [if_pos Gv] at heq
  have hkk:=(xz hc1 (by simp)).2.2
  have nK:=af (fun W hW=>Hn.built E W s (hd s.l) tr s' hW hkk heq)
  clear hkk
  have Tt:=af hc0
  have VQ:=af hc1
  clear Gv heq hc0 hc1
  go_wp2_with (first
   |(go_at_call 27;(with_reducible refine (au E _ s aB [108,101,110] ⟨#[108,101,110]⟩ rfl).mono ?_);rintro e w6 ⟨rfl,dA⟩;rw [Tt.out];have lu:=bA jF dA;have iX:=aL iw dA;have bn:=aT.aC dA;have gI:=gU.aC dA)
   |(go_at_call 27;(with_reducible refine (au E _ s aB [97,112,112,101,110,100] ⟨#[97,112,112,101,110,100]⟩ rfl).mono ?_);rintro e w7 ⟨rfl,dZ⟩;rw [VQ.out];have o5:=bA lu dZ;have lV:=aL iX dZ;have bW:=bn.aC dZ;have aiN:=bW.lt;have jJ:=gI.aC dZ;obtain ⟨_,amA,adP,amB,amC,_⟩:=jJ.jX)
   |(go_at_call 140;(with_reducible refine (nK.out _ aB).mono ?_);rintro e w8 ⟨fK,tY,k8,op8,m8,p8,t8,a8,Ar,A8,c8,rfl,rfl,ag0⟩;have qJ:=bP lV fK;have dK:=bW.call fK (by omega);obtain ⟨_,NZ,N8,N9,Oa,Ob,Oc,Od,Oe⟩:=dK.av;have aiO:=ag0.mono (lo':=w7.heap.size) (by simp)))
  exact aX Tryz.results134 rfl rfl dS ⟨aJ,aB,k8,op8,m8,p8,t8,a8,Ar,A8,c8,rfl,rfl,aI.mono (lo:=w7.heap.size) (v:=.slice A8 Ar.length c8) (ks:=Ar) nS (by omega)⟩
 |false=>
 cases hc2:bX [112,97,110,105,99] s with
 |true=>
  have Gv:mV s=true:=by unfold mV;simp [hc0,hc1,hc2]
  rw [if_pos Gv] at heq
  have hkk:=(xz hc2 (by simp)).2.2
  have nK:=af (fun W hW=>Hn.built E W s (hd s.l) tr s' hW hkk heq)
  clear hkk
  have Tt:=af hc0
  have VQ:=af hc1
  have Y2:=af hc2
  clear Gv heq hc0 hc1 hc2
  go_wp2_with (first
   |(go_at_call 27;(with_reducible refine (au E _ s aB [108,101,110] ⟨#[108,101,110]⟩ rfl).mono ?_);rintro e w6 ⟨rfl,dA⟩;rw [Tt.out];have lu:=bA jF dA;have iX:=aL iw dA;have bn:=aT.aC dA;have gI:=gU.aC dA)
   |(go_at_call 27;(with_reducible refine (au E _ s aB [97,112,112,101,110,100] ⟨#[97,112,112,101,110,100]⟩ rfl).mono ?_);rintro e w7 ⟨rfl,dZ⟩;rw [VQ.out];have o5:=bA lu dZ;have lV:=aL iX dZ;have bW:=bn.aC dZ;have jJ:=gI.aC dZ)
   |(go_at_call 27;(with_reducible refine (au E _ s aB [112,97,110,105,99] ⟨#[112,97,110,105,99]⟩ rfl).mono ?_);rintro e w8 ⟨rfl,fK⟩;rw [Y2.out];have tY:=bA o5 fK;have qJ:=aL lV fK;have dK:=bW.aC fK;have ZP:=dK.lt;have ji:=jJ.aC fK;obtain ⟨_,amD,adQ,amE,adR,_⟩:=ji.jX)
   |(go_at_call 140;(with_reducible refine (nK.out _ aB).mono ?_);rintro e w9 ⟨gP,yT,k9,YY,m9,p9,t9,a9,Te,A9,c9,rfl,rfl,ag1⟩;have wY:=bP qJ gP;have gH:=dK.call gP (by omega);obtain ⟨_,SC,SE,SF,SG,SH,SI,SK,SL⟩:=gH.av;have aiP:=ag1.mono (lo':=w8.heap.size) (by simp)))
  exact aX Tryz.results134 rfl rfl dS ⟨aJ,aB,k9,YY,m9,p9,t9,a9,Te,A9,c9,rfl,rfl,aI.mono (lo:=w8.heap.size) (v:=.slice A9 Te.length c9) (ks:=Te) nS (by omega)⟩
 |false=>
 cases hc3:bX [112,117,116] s with
 |true=>
  have Gv:mV s=true:=by unfold mV;simp [hc0,hc1,hc2,hc3]
  rw [if_pos Gv] at heq
  have hkk:=(xz hc3 (by simp)).2.2
  have nK:=af (fun W hW=>Hn.built E W s (hd s.l) tr s' hW hkk heq)
  clear hkk
  have Tt:=af hc0
  have VQ:=af hc1
  have Y2:=af hc2
  have HC3:=af hc3
  clear Gv heq hc0 hc1 hc2 hc3
  go_wp2_with (first
   |(go_at_call 27;(with_reducible refine (au E _ s aB [108,101,110] ⟨#[108,101,110]⟩ rfl).mono ?_);rintro e w6 ⟨rfl,dA⟩;rw [Tt.out];have lu:=bA jF dA;have iX:=aL iw dA;have bn:=aT.aC dA;have gI:=gU.aC dA)
   |(go_at_call 27;(with_reducible refine (au E _ s aB [97,112,112,101,110,100] ⟨#[97,112,112,101,110,100]⟩ rfl).mono ?_);rintro e w7 ⟨rfl,dZ⟩;rw [VQ.out];have o5:=bA lu dZ;have lV:=aL iX dZ;have bW:=bn.aC dZ;have jJ:=gI.aC dZ)
   |(go_at_call 27;(with_reducible refine (au E _ s aB [112,97,110,105,99] ⟨#[112,97,110,105,99]⟩ rfl).mono ?_);rintro e w8 ⟨rfl,fK⟩;rw [Y2.out];have tY:=bA o5 fK;have qJ:=aL lV fK;have dK:=bW.aC fK;have ji:=jJ.aC fK)
   |(go_at_call 27;(with_reducible refine (au E _ s aB [112,117,116] ⟨#[112,117,116]⟩ rfl).mono ?_);rintro e w9 ⟨rfl,gP⟩;rw [HC3.out];have yT:=bA tY gP;have wY:=aL qJ gP;have gH:=dK.aC gP;have adS:=gH.lt;have mK:=ji.aC gP;obtain ⟨_,amF,amG,amH,amI,_⟩:=mK.jX)
   |(go_at_call 140;(with_reducible refine (nK.out _ aB).mono ?_);rintro e kF ⟨iM,gu,k10,OM,m10,p10,t10,a10,uY,Ov,c10,rfl,rfl,VR⟩;have jk:=bP wY iM;have dF:=gH.call iM (by omega);obtain ⟨_,LX,LY,LZ,L6,L8,L9,Ma,Mc⟩:=dF.av;have abU:=VR.mono (lo':=w9.heap.size) (by simp)))
  exact aX Tryz.results134 rfl rfl dS ⟨aJ,aB,k10,OM,m10,p10,t10,a10,uY,Ov,c10,rfl,rfl,aI.mono (lo:=w9.heap.size) (v:=.slice Ov uY.length c10) (ks:=uY) nS (by omega)⟩
 |false=>
 cases hc4:bX [103,101,116] s with
 |true=>
  have Gv:mV s=true:=by unfold mV;simp [hc0,hc1,hc2,hc3,hc4]
  rw [if_pos Gv] at heq
  have hkk:=(xz hc4 (by simp)).2.2
  have nK:=af (fun W hW=>Hn.built E W s (hd s.l) tr s' hW hkk heq)
  clear hkk
  have Tt:=af hc0
  have VQ:=af hc1
  have Y2:=af hc2
  have HC3:=af hc3
  have HC4:=af hc4
  clear Gv heq hc0 hc1 hc2 hc3 hc4
  go_wp2_with (first
   |(go_at_call 27;(with_reducible refine (au E _ s aB [108,101,110] ⟨#[108,101,110]⟩ rfl).mono ?_);rintro e w6 ⟨rfl,dA⟩;rw [Tt.out];have lu:=bA jF dA;have iX:=aL iw dA;have bn:=aT.aC dA;have gI:=gU.aC dA)
   |(go_at_call 27;(with_reducible refine (au E _ s aB [97,112,112,101,110,100] ⟨#[97,112,112,101,110,100]⟩ rfl).mono ?_);rintro e w7 ⟨rfl,dZ⟩;rw [VQ.out];have o5:=bA lu dZ;have lV:=aL iX dZ;have bW:=bn.aC dZ;have jJ:=gI.aC dZ)
   |(go_at_call 27;(with_reducible refine (au E _ s aB [112,97,110,105,99] ⟨#[112,97,110,105,99]⟩ rfl).mono ?_);rintro e w8 ⟨rfl,fK⟩;rw [Y2.out];have tY:=bA o5 fK;have qJ:=aL lV fK;have dK:=bW.aC fK;have ji:=jJ.aC fK)
   |(go_at_call 27;(with_reducible refine (au E _ s aB [112,117,116] ⟨#[112,117,116]⟩ rfl).mono ?_);rintro e w9 ⟨rfl,gP⟩;rw [HC3.out];have yT:=bA tY gP;have wY:=aL qJ gP;have gH:=dK.aC gP;have mK:=ji.aC gP)
   |(go_at_call 27;(with_reducible refine (au E _ s aB [103,101,116] ⟨#[103,101,116]⟩ rfl).mono ?_);rintro e kF ⟨rfl,iM⟩;rw [HC4.out];have gu:=bA yT iM;have jk:=aL wY iM;have dF:=gH.aC iM;have Fw:=dF.lt;have mE:=mK.aC iM;obtain ⟨_,aiQ,aiR,aiS,VS,_⟩:=mE.jX)
   |(go_at_call 140;(with_reducible refine (nK.out _ aB).mono ?_);rintro e bB ⟨aV,fM,k11,abV,m11,p11,t11,a11,OO,Ow,c11,rfl,rfl,qK⟩;have gm:=bP jk aV;have bR:=dF.call aV (by omega);obtain ⟨_,Be,Bf,Bg,Bh,Bi,Bj,Bl,Bn⟩:=bR.av;have ag2:=qK.mono (lo':=kF.heap.size) (by simp)))
  exact aX Tryz.results134 rfl rfl dS ⟨aJ,aB,k11,abV,m11,p11,t11,a11,OO,Ow,c11,rfl,rfl,aI.mono (lo:=kF.heap.size) (v:=.slice Ow OO.length c11) (ks:=OO) nS (by omega)⟩
 |false=>
 cases Yf:bX [109,97,107,101] s with
 |true=>
  have Gv:mV s=true:=by unfold mV;simp [hc0,hc1,hc2,hc3,hc4,Yf]
  rw [if_pos Gv] at heq
  have hkk:=(xz Yf (by simp)).2.2
  have nK:=af (fun W hW=>Hn.built E W s (hd s.l) tr s' hW hkk heq)
  clear hkk
  have Tt:=af hc0
  have VQ:=af hc1
  have Y2:=af hc2
  have HC3:=af hc3
  have HC4:=af hc4
  have HC5:=af Yf
  clear Gv heq hc0 hc1 hc2 hc3 hc4 Yf
  go_wp2_with (first
   |(go_at_call 27;(with_reducible refine (au E _ s aB [108,101,110] ⟨#[108,101,110]⟩ rfl).mono ?_);rintro e w6 ⟨rfl,dA⟩;rw [Tt.out];have lu:=bA jF dA;have iX:=aL iw dA;have bn:=aT.aC dA;have gI:=gU.aC dA)
   |(go_at_call 27;(with_reducible refine (au E _ s aB [97,112,112,101,110,100] ⟨#[97,112,112,101,110,100]⟩ rfl).mono ?_);rintro e w7 ⟨rfl,dZ⟩;rw [VQ.out];have o5:=bA lu dZ;have lV:=aL iX dZ;have bW:=bn.aC dZ;have jJ:=gI.aC dZ)
   |(go_at_call 27;(with_reducible refine (au E _ s aB [112,97,110,105,99] ⟨#[112,97,110,105,99]⟩ rfl).mono ?_);rintro e w8 ⟨rfl,fK⟩;rw [Y2.out];have tY:=bA o5 fK;have qJ:=aL lV fK;have dK:=bW.aC fK;have ji:=jJ.aC fK)
   |(go_at_call 27;(with_reducible refine (au E _ s aB [112,117,116] ⟨#[112,117,116]⟩ rfl).mono ?_);rintro e w9 ⟨rfl,gP⟩;rw [HC3.out];have yT:=bA tY gP;have wY:=aL qJ gP;have gH:=dK.aC gP;have mK:=ji.aC gP)
   |(go_at_call 27;(with_reducible refine (au E _ s aB [103,101,116] ⟨#[103,101,116]⟩ rfl).mono ?_);rintro e kF ⟨rfl,iM⟩;rw [HC4.out];have gu:=bA yT iM;have jk:=aL wY iM;have dF:=gH.aC iM;have mE:=mK.aC iM)
   |(go_at_call 27;(with_reducible refine (au E _ s aB [109,97,107,101] ⟨#[109,97,107,101]⟩ rfl).mono ?_);rintro e bB ⟨rfl,aV⟩;rw [HC5.out];have fM:=bA gu aV;have gm:=aL jk aV;have bR:=dF.aC aV;have abW:=bR.lt;have uG:=mE.aC aV;obtain ⟨_,aiT,aiU,aiV,aiW,_⟩:=uG.jX)
   |(go_at_call 140;(with_reducible refine (nK.out _ aB).mono ?_);rintro e ek ⟨dH,jY,k12,VT,m12,p12,t12,a12,OQ,vC,c12,rfl,rfl,Z0⟩;have kK:=bP gm dH;have gT:=bR.call dH (by omega);obtain ⟨_,Iy,Iz,IA,IB,IC,IE,IG,II⟩:=gT.av;have ag3:=Z0.mono (lo':=bB.heap.size) (by simp)))
  exact aX Tryz.results134 rfl rfl dS ⟨aJ,aB,k12,VT,m12,p12,t12,a12,OQ,vC,c12,rfl,rfl,aI.mono (lo:=bB.heap.size) (v:=.slice vC OQ.length c12) (ks:=OQ) nS (by omega)⟩
 |false=>
 have Gv:mV s=false:=by unfold mV;simp [hc0,hc1,hc2,hc3,hc4,Yf]
 rw [if_neg (by rw [Gv];decide)] at heq
 simp only [Option.some.injEq,Prod.mk.injEq] at heq
 obtain ⟨rfl,rfl⟩:=heq
 have Tt:=af hc0
 have VQ:=af hc1
 have Y2:=af hc2
 have HC3:=af hc3
 have HC4:=af hc4
 have HC5:=af Yf
 clear Gv hc0 hc1 hc2 hc3 hc4 Yf
 go_wp2_with (first
  |(go_at_call 27;(with_reducible refine (au E _ s aB [108,101,110] ⟨#[108,101,110]⟩ rfl).mono ?_);rintro e w6 ⟨rfl,dA⟩;rw [Tt.out];have lu:=bA jF dA;have iX:=aL iw dA;have bn:=aT.aC dA;have gI:=gU.aC dA)
  |(go_at_call 27;(with_reducible refine (au E _ s aB [97,112,112,101,110,100] ⟨#[97,112,112,101,110,100]⟩ rfl).mono ?_);rintro e w7 ⟨rfl,dZ⟩;rw [VQ.out];have o5:=bA lu dZ;have lV:=aL iX dZ;have bW:=bn.aC dZ;have jJ:=gI.aC dZ)
  |(go_at_call 27;(with_reducible refine (au E _ s aB [112,97,110,105,99] ⟨#[112,97,110,105,99]⟩ rfl).mono ?_);rintro e w8 ⟨rfl,fK⟩;rw [Y2.out];have tY:=bA o5 fK;have qJ:=aL lV fK;have dK:=bW.aC fK;have ji:=jJ.aC fK)
  |(go_at_call 27;(with_reducible refine (au E _ s aB [112,117,116] ⟨#[112,117,116]⟩ rfl).mono ?_);rintro e w9 ⟨rfl,gP⟩;rw [HC3.out];have yT:=bA tY gP;have wY:=aL qJ gP;have gH:=dK.aC gP;have mK:=ji.aC gP)
  |(go_at_call 27;(with_reducible refine (au E _ s aB [103,101,116] ⟨#[103,101,116]⟩ rfl).mono ?_);rintro e kF ⟨rfl,iM⟩;rw [HC4.out];have gu:=bA yT iM;have jk:=aL wY iM;have dF:=gH.aC iM;have mE:=mK.aC iM)
  |(go_at_call 27;(with_reducible refine (au E _ s aB [109,97,107,101] ⟨#[109,97,107,101]⟩ rfl).mono ?_);rintro e bB ⟨rfl,aV⟩;rw [HC5.out];have fM:=bA gu aV;have gm:=aL jk aV;have bR:=dF.aC aV;have uG:=mE.aC aV)
  |(go_at_call 47;(with_reducible refine (kV E _ s aB 5).mono ?_);rintro e ek ⟨rfl,jY,dH⟩;have kK:=bP gm dH;have gT:=bR.call dH (by omega);obtain ⟨_,Iy,Iz,IA,IB,IC,IE,IG,II⟩:=gT.av))
 exact aX Tryz.results134 rfl rfl dS ⟨aJ,aB,0,0,0,[],[],0,[],none,0,rfl,rfl,aI.nil _ _ 0⟩
theorem Y3 {l:List T} (h:l≠[]):kind l=(hd l).1.k:=by
 cases l with
 |nil=>exact absurd rfl h
 |cons x r=>rfl
theorem OT (n:Nat) (hn:n+10<=cK) (H:∀m,m<=n->qQ m):CM (n+1) 116 .first:=by
 intro E w s tr s' h heq
 have hlt:=h.lt
 have hgt:=h.iy
 have Hn:=H n (Nat.le_refl _)
 have hR0:=h
 go_enter Tryz.func116,Tryz.ntmps116
 go_wp2
 refine nG (P:=fun W=>RS E W s/\Gr (·=E.b) w W/\ag W w.heap.size 24 Z7/\w.heap.size+1<=W.heap.size) ⟨aB,aJ,bz,(by first|(simp;done)|(simp;omega))⟩ ?_
 rintro w1 ⟨fB,hG1,az,_⟩
 have kW:=fB.lt
 obtain ⟨j,hj,hjl,k0,k1,k2,k3,k4,q0,q1,q2,q3,fz⟩:=fB.here
 have hlt:=fB.lt
 have hgl:=fB.iy
 have hll:=fB.len
 have hne:=fB.ne
 clear fz hj
 obtain ⟨B,hB⟩:=aS E.b
 obtain ⟨G,hG⟩:=aS E.g
 obtain ⟨N,hN⟩:=aS E.ts.length
 obtain ⟨C,hC⟩:=aS E.c
 obtain ⟨so,hso⟩:=aS s.o
 obtain ⟨se,hse⟩:=aS s.e
 obtain ⟨sp,hsp⟩:=aS s.p
 obtain ⟨tk,htk⟩:=aS (hd s.l).1.k
 obtain ⟨tt,rP⟩:=aS (hd s.l).1.t
 obtain ⟨tn,htn⟩:=aS (hd s.l).1.n
 obtain ⟨tp,htp⟩:=aS (hd s.l).2
 rw [hB] at k0 k1 k2 k3 k4 hlt
 rw [hG,hN,hC] at k0
 rw [hso] at k2
 rw [hse] at k3
 rw [hsp] at k4
 rw [hG,htk] at q0
 rw [hG,rP] at q1
 rw [hG,htn] at q2
 rw [hG,htp] at q3
 rw [hG] at hgl
 rw [hN] at hjl hll
 rw [hG,hB] at hne
 have j0:(0:Int)<=(j:Int):=by omega
 have j1:(j:Int) < (N:Int):=by omega
 have j2:(j:Int)<=8193:=by omega
 have Li:=af htk
 have Sq:=af rP
 have U3:=af htn
 have GI:=af htp
 have LW:=af hB
 rw [hB]
 clear hB hG hN hC hso hse hsp htk rP htn htp
 refine wp_region_held_drew (S:=fun V=>Below w1.heap.size w1 V) (by kernel_rfl) (Below.refl _ w1).drew (fun hS0=>?_)
 refine aQ 0 hS0 ?_
 refine aQ 1 hS0 ?_
 refine aQ 2 hS0 ?_
 refine jS 3 hS0 ?_ (fun w' hS=>(hS.cell (p:=⟨B,0,none⟩) hlt).trans k0)
 refine aQ 4 hS0 ?_
 refine aQ 5 hS0 ?_
 refine aQ 6 hS0 ?_
 refine jS 7 hS0 ?_ (fun w' hS=>(hS.cell (p:=⟨B,1,none⟩) hlt).trans k1)
 refine aQ 8 hS0 ?_
 refine oU 9 hS0 ?_ (he:=fun w' hS=>by (have y0:=(hS.cell (p:=⟨G,_,none⟩) hgl).trans q0;have y1:=(hS.cell (p:=⟨G,_,none⟩) hgl).trans q1;have y2:=(hS.cell (p:=⟨G,_,none⟩) hgl).trans q2;have y3:=(hS.cell (p:=⟨G,_,none⟩) hgl).trans q3;unfold execOp;go_simp;first|done|exact rfl))
 refine oI 10 rfl (aY (v:=.pointer (some ⟨w1.heap.size,0,none⟩)) (w':=(w1.drew.alloc (.cells #[.int .i64 0,.string ⟨#[]⟩,.int .i64 0,.int .i64 0] 53))) (by unfold execOp;go_simp) (And.intro ((Below.refl _ w1).drew.alloc (by simp) _) ?_))
 simp only [Act.put,List.getElem_toArray,List.getElem_cons_zero,List.getElem_cons_succ,List.setIfInBounds_toArray,List.set_cons_zero,List.set_cons_succ]
 obtain ⟨w2,qg⟩:=aS (((((w1.drew.alloc (.cells #[.int .i64 0,.string ⟨#[]⟩,.int .i64 0,.int .i64 0] 53)).setCell ⟨w1.heap.size,0,none⟩ (.int .i64 tk)).setCell ⟨w1.heap.size,1,none⟩ (.string (bs tt))).setCell ⟨w1.heap.size,2,none⟩ (.int .i64 tn)).setCell ⟨w1.heap.size,3,none⟩ (.int .i64 tp))
 have hbw2:Below w1.heap.size w1 w2:=qg▸um w1 _ _ _ _
 have vQ:ag w2 w1.heap.size 53 (T4 tk (bs tt) tn tp):=qg▸uo w1 _ _ _ _
 refine oI 11 rfl (mU (w':=w2) (by rw [<-qg];unfold execOp;go_simp) (And.intro hbw2 ?_))
 simp only [Act.put,List.getElem_toArray,List.getElem_cons_zero,List.getElem_cons_succ,List.setIfInBounds_toArray,List.set_cons_zero,List.set_cons_succ]
 refine eZ ?_
 clear qg hS0 k0 k1 k2 k3 k4 q0 q1 q2 q3 j0 j1 j2 hjl hll hne hlt hgl
 rw [<-Li.out,<-Sq.out,<-U3.out,<-GI.out] at vQ
 rw [<-LW.out]
 have hR2:RS E w2 s:=fB.below hbw2
 have hG2:Gr (·=E.b) w w2:=Gr.trans hG1 (Gr.of_below hbw2)
 have ou:=hR2.lt
 have ql:=hR2.iy
 have nT:ag w2 w1.heap.size 53 (T4 ((hd s.l).1.k) (bs (hd s.l).1.t) ((hd s.l).1.n) ((hd s.l).2)):=vQ
 have adT:=nT.lt
 have ax:ag w2 w.heap.size 24 Z7:=ag.aC az hbw2
 have jT:=ax.lt
 clear vQ hbw2
 obtain ⟨_,adU,amJ,amK,ag4,amL⟩:=nT.jX
 have hkd:=Y3 (l:=s.l) (by obtain ⟨x,r,hx⟩:=h.cons;rw [hx];simp)
 simp only [m5,hkd] at heq
 clear hkd
 by_cases he:s.e=0
 case pos=>
  by_cases h3:(hd s.l).1.k=3
  ·have HE:=af he
   have HK3:=af h3
   have HKK:=af (show (hd s.l).1.k≠0 by omega)
   rw [if_pos (by simp [he,h3])] at heq
   simp only [Option.some.injEq,Prod.mk.injEq] at heq
   obtain ⟨rfl,rfl⟩:=heq
   clear he h3
   obtain ⟨jq,hjq,hjl,e0,e1,e2,e3,e4,_,_,_,_,ef⟩:=hR2.here
   have Am:=ef 1
   have hll:=hR2.len
   have j0:(0:Int)<=(jq:Int):=by omega
   have j2:(jq:Int)<=8193:=by omega
   have HJ:=af hjq
   clear hjq hjl hll ef e0 e2 e4
   rw [HE.out] at e3
   obtain ⟨_,lJ,lK,lM,lN,lQ,lS,lT,lU⟩:=ax.av
   rw [HK3.out] at adU
   have wZ:RS E w2 s:=aB
   have iY:=ic wZ HKK.out
   have dN:Gr (·=E.b) w ((w2).setCell ⟨E.b,1,none⟩ (.int .i64 ((E.ts.length - s.l.length:Nat)+1:Int))):=vK aJ 1 _
   rw [HJ.out] at iY dN
   have Fx:=af iY
   have xS:=af dN
   clear wZ iY dN
   go_wp2
   have iY:=Fx.out
   have dN:=xS.out
   exact aX Tryz.results116 rfl rfl dS ⟨aJ,aB,26,0,(hdn s),[],[],(hdp s),[],none,0,rfl,rfl,aI.nil _ _ 0⟩
  by_cases h4:(hd s.l).1.k=4
  ·have HE:=af he
   have HK3:=af h4
   have HKK:=af (show (hd s.l).1.k≠0 by omega)
   rw [if_neg (by simp [h4]),if_pos (by simp [he,h4])] at heq
   simp only [Option.some.injEq,Prod.mk.injEq] at heq
   obtain ⟨rfl,rfl⟩:=heq
   clear he h3 h4
   obtain ⟨jq,hjq,hjl,e0,e1,e2,e3,e4,_,_,_,_,ef⟩:=hR2.here
   have Am:=ef 1
   have hll:=hR2.len
   have j0:(0:Int)<=(jq:Int):=by omega
   have j2:(jq:Int)<=8193:=by omega
   have HJ:=af hjq
   clear hjq hjl hll ef e0 e2 e4
   rw [HE.out] at e3
   obtain ⟨_,lJ,lK,lM,lN,lQ,lS,lT,lU⟩:=ax.av
   rw [HK3.out] at adU
   have wZ:RS E w2 s:=aB
   have iY:=ic wZ HKK.out
   have dN:Gr (·=E.b) w ((w2).setCell ⟨E.b,1,none⟩ (.int .i64 ((E.ts.length - s.l.length:Nat)+1:Int))):=vK aJ 1 _
   rw [HJ.out] at iY dN
   have Fx:=af iY
   have xS:=af dN
   clear wZ iY dN
   go_wp2
   have iY:=Fx.out
   have dN:=xS.out
   exact aX Tryz.results116 rfl rfl dS ⟨aJ,aB,27,0,0,[],(hdt s),(hdp s),[],none,0,rfl,rfl,aI.nil _ _ 0⟩
  rw [if_neg (by simp [h3]),if_neg (by simp [h4])] at heq
  have HE:=af he
  have c3:((hd s.l).1.k == 3)=false:=by simpa using h3
  have c4:((hd s.l).1.k == 4)=false:=by simpa using h4
  clear he h3 h4
  obtain ⟨jq,hjq,hjl,e0,e1,e2,e3,e4,_,_,_,_,ef⟩:=hR2.here
  have Am:=ef 1
  have hll:=hR2.len
  have j0:(0:Int)<=(jq:Int):=by omega
  have j2:(jq:Int)<=8193:=by omega
  have HJ:=af hjq
  clear hjq hjl hll ef e0 e2 e4
  rw [HE.out] at e3
  clear Am e1
  cases hi0:bX [116,114,117,101] s with
  |true=>
   have HI0:=af hi0
   have HKK:=af (xz hi0 (by simp)).2.2
   simp only [hi0,if_true,Option.some.injEq,Prod.mk.injEq] at heq
   obtain ⟨rfl,rfl⟩:=heq
   clear hi0
   go_wp2_with (first
    |(go_at_call 27;(with_reducible refine (au E _ s aB [116,114,117,101] ⟨#[116,114,117,101]⟩ rfl).mono ?_);rintro e w3 ⟨rfl,hg3⟩;rw [HI0.out];have gZ:=bA hR2 hg3;have hG3:=aL hG2 hg3;have aF:=bV ax hg3;obtain ⟨_,vM,wQ,wR,wS,wT,wU,wV,vN⟩:=aF.av;have aM:ag w3 w2.heap.size 24 (N7 0 0 0 ⟨#[]⟩ ⟨#[]⟩ (hdp s) (.slice none 0 0)):=ag.aC bz hg3;obtain ⟨_,yP,Jr,EL,Jp,GL,GM,sH,pg⟩:=aM.av;obtain ⟨_,hjr,_,_,e1,_,_,_,_,_,_,_,ef⟩:=gZ.here;rw [HJ.out] at hjr;subst hjr;have Am:=ef 1;clear ef;have wZ:RS E (((w3.setCell ⟨w2.heap.size,0,none⟩ (.int .i64 28)).setCell ⟨w2.heap.size,2,none⟩ (.int .i64 1))) s:=aB;have iY:=ic wZ HKK.out;have dN:Gr (·=E.b) w ((((w3.setCell ⟨w2.heap.size,0,none⟩ (.int .i64 28)).setCell ⟨w2.heap.size,2,none⟩ (.int .i64 1))).setCell ⟨E.b,1,none⟩ (.int .i64 ((E.ts.length - s.l.length:Nat)+1:Int))):=vK aJ 1 _;rw [HJ.out] at iY dN;have Fx:=af iY;have xS:=af dN;clear iY dN))
   have iY:=Fx.out
   have dN:=xS.out
   exact aX Tryz.results116 rfl rfl dS ⟨aJ,aB,28,0,1,[],[],(hdp s),[],none,0,rfl,rfl,aI.nil _ _ 0⟩
  |false=>
  have HI0:=af hi0
  simp only [hi0,Bool.false_eq_true,if_false] at heq
  clear hi0
  go_wp2_with (first
   |(go_at_call 27;(with_reducible refine (au E _ s aB [116,114,117,101] ⟨#[116,114,117,101]⟩ rfl).mono ?_);rintro e w3 ⟨rfl,hg3⟩;rw [HI0.out];have gZ:=bA hR2 hg3;have hG3:=aL hG2 hg3;have aF:=bV ax hg3;have jh:=bV nT hg3;have aM:ag w3 w2.heap.size 24 (N7 0 0 0 ⟨#[]⟩ ⟨#[]⟩ (hdp s) (.slice none 0 0)):=ag.aC bz hg3))
  cases hi1:bX [102,97,108,115,101] s with
  |true=>
   have HI1:=af hi1
   have HKK:=af (xz hi1 (by simp)).2.2
   simp only [hi1,if_true,Option.some.injEq,Prod.mk.injEq] at heq
   obtain ⟨rfl,rfl⟩:=heq
   clear hi1
   go_wp2_with (first
    |(go_at_call 27;(with_reducible refine (au E _ s aB [102,97,108,115,101] ⟨#[102,97,108,115,101]⟩ rfl).mono ?_);rintro e w4 ⟨rfl,hg4⟩;rw [HI1.out];have jb:=bA gZ hg4;have hG4:=aL hG3 hg4;have aK:=aF.aC hg4;obtain ⟨_,wO,xC,xD,xE,xG,xH,xI,wP⟩:=aK.av;have aW:=aM.aC hg4;obtain ⟨_,Ck,Dp,EB,EC,ED,EE,xJ,Dq⟩:=aW.av;obtain ⟨_,hjr,_,_,e1,_,_,_,_,_,_,_,ef⟩:=jb.here;rw [HJ.out] at hjr;subst hjr;have Am:=ef 1;clear ef;have wZ:RS E ((w4.setCell ⟨w2.heap.size,0,none⟩ (.int .i64 28))) s:=aB;have iY:=ic wZ HKK.out;have dN:Gr (·=E.b) w (((w4.setCell ⟨w2.heap.size,0,none⟩ (.int .i64 28))).setCell ⟨E.b,1,none⟩ (.int .i64 ((E.ts.length - s.l.length:Nat)+1:Int))):=vK aJ 1 _;rw [HJ.out] at iY dN;have Fx:=af iY;have xS:=af dN;clear iY dN))
   have iY:=Fx.out
   have dN:=xS.out
   exact aX Tryz.results116 rfl rfl dS ⟨aJ,aB,28,0,0,[],[],(hdp s),[],none,0,rfl,rfl,aI.nil _ _ 0⟩
  |false=>
  have HI1:=af hi1
  simp only [hi1,Bool.false_eq_true,if_false] at heq
  clear hi1
  go_wp2_with (first
   |(go_at_call 27;(with_reducible refine (au E _ s aB [102,97,108,115,101] ⟨#[102,97,108,115,101]⟩ rfl).mono ?_);rintro e w4 ⟨rfl,hg4⟩;rw [HI1.out];have jb:=bA gZ hg4;have hG4:=aL hG3 hg4;have aK:=aF.aC hg4;have iq:=jh.aC hg4;have aW:=aM.aC hg4))
  cases hi2:bX [110,105,108] s with
  |true=>
   have HI2:=af hi2
   have HKK:=af (xz hi2 (by simp)).2.2
   simp only [hi2,if_true,Option.some.injEq,Prod.mk.injEq] at heq
   obtain ⟨rfl,rfl⟩:=heq
   clear hi2
   go_wp2_with (first
    |(go_at_call 27;(with_reducible refine (au E _ s aB [110,105,108] ⟨#[110,105,108]⟩ rfl).mono ?_);rintro e w5 ⟨rfl,hg5⟩;rw [HI2.out];have jF:=bA jb hg5;have iw:=aL hG4 hg5;have aT:=aK.aC hg5;obtain ⟨_,DD,DF,DI,DJ,DK,DL,DN,DR⟩:=aT.av;have aR:=aW.aC hg5;obtain ⟨_,LB,Ti,GU,Tj,Tm,Tn,yR,zO⟩:=aR.av;obtain ⟨_,hjr,_,_,e1,_,_,_,_,_,_,_,ef⟩:=jF.here;rw [HJ.out] at hjr;subst hjr;have Am:=ef 1;clear ef;have wZ:RS E ((w5.setCell ⟨w2.heap.size,0,none⟩ (.int .i64 29))) s:=aB;have iY:=ic wZ HKK.out;have dN:Gr (·=E.b) w (((w5.setCell ⟨w2.heap.size,0,none⟩ (.int .i64 29))).setCell ⟨E.b,1,none⟩ (.int .i64 ((E.ts.length - s.l.length:Nat)+1:Int))):=vK aJ 1 _;rw [HJ.out] at iY dN;have Fx:=af iY;have xS:=af dN;clear iY dN))
   have iY:=Fx.out
   have dN:=xS.out
   exact aX Tryz.results116 rfl rfl dS ⟨aJ,aB,29,0,0,[],[],(hdp s),[],none,0,rfl,rfl,aI.nil _ _ 0⟩
  |false=>
  have HI2:=af hi2
  simp only [hi2,Bool.false_eq_true,if_false] at heq
  clear hi2
  go_wp2_with (first
   |(go_at_call 27;(with_reducible refine (au E _ s aB [110,105,108] ⟨#[110,105,108]⟩ rfl).mono ?_);rintro e w5 ⟨rfl,hg5⟩;rw [HI2.out];have jF:=bA jb hg5;have iw:=aL hG4 hg5;have aT:=aK.aC hg5;have gU:=iq.aC hg5;have aR:=aW.aC hg5))
  cases hi3:nE s with
  |true=>
   have HI3:=af hi3
   have HKK:=af (Ea hi3)
   simp only [hi3,if_true,Option.some.injEq,Prod.mk.injEq] at heq
   obtain ⟨rfl,rfl⟩:=heq
   clear hi3
   go_wp2_with (first
    |(go_at_call 48;(with_reducible refine (gJ E _ s aB).mono ?_);rintro e w6 ⟨rfl,dA⟩;rw [HI3.out];have lu:=bA jF dA;have iX:=aL iw dA;have bn:=aT.aC dA;obtain ⟨_,Jw,Jy,Jz,JC,JF,JG,JH,JI⟩:=bn.av;have gI:=gU.aC dA;obtain ⟨_,_,agZ,_⟩:=gI.jX;have bE:=aR.aC dA;obtain ⟨_,NV,Vl,NW,Vm,Vn,Vo,NY,Vp⟩:=bE.av;obtain ⟨_,hjr,_,_,e1,_,_,_,_,_,_,_,ef⟩:=lu.here;rw [HJ.out] at hjr;subst hjr;have Am:=ef 1;clear ef;have wZ:RS E (((w6.setCell ⟨w2.heap.size,0,none⟩ (.int .i64 30)).setCell ⟨w2.heap.size,4,none⟩ (.string (bs (hd s.l).1.t)))) s:=aB;have iY:=ic wZ HKK.out;have dN:Gr (·=E.b) w ((((w6.setCell ⟨w2.heap.size,0,none⟩ (.int .i64 30)).setCell ⟨w2.heap.size,4,none⟩ (.string (bs (hd s.l).1.t)))).setCell ⟨E.b,1,none⟩ (.int .i64 ((E.ts.length - s.l.length:Nat)+1:Int))):=vK aJ 1 _;rw [HJ.out] at iY dN;have Fx:=af iY;have xS:=af dN;clear iY dN))
   have iY:=Fx.out
   have dN:=xS.out
   exact aX Tryz.results116 rfl rfl dS ⟨aJ,aB,30,0,0,[],(hdt s),(hdp s),[],none,0,rfl,rfl,aI.nil _ _ 0⟩
  |false=>
  have HI3:=af hi3
  simp only [hi3,Bool.false_eq_true,if_false] at heq
  have nK:=af (fun W hW=>Hn.great E W _ tr s' hW heq)
  clear hi3 heq
  go_wp2_with (first
   |(go_at_call 48;(with_reducible refine (gJ E _ s aB).mono ?_);rintro e w6 ⟨rfl,dA⟩;rw [HI3.out];have lu:=bA jF dA;have iX:=aL iw dA;have bn:=aT.aC dA;have IK:=bn.lt;have gI:=gU.aC dA;have bE:=aR.aC dA)
   |(go_at_call 134;(with_reducible refine (nK.out _ aB).mono ?_);rintro e w7 ⟨dZ,o5,k7,VO,m7,p7,t7,a7,yS,A7,c7,rfl,rfl,OL⟩;have lV:=bP iX dZ;have bW:=bn.call dZ (by omega);obtain ⟨_,EO,EP,ER,ES,ET,EU,EW,EX⟩:=bW.av;have VP:=OL.mono (lo':=w6.heap.size) (by simp)))
  exact aX Tryz.results116 rfl rfl dS ⟨aJ,aB,k7,VO,m7,p7,t7,a7,yS,A7,c7,rfl,rfl,aI.mono (lo:=w6.heap.size) (v:=.slice A7 yS.length c7) (ks:=yS) nS (by omega)⟩
 case neg=>
  have HI0:=af (show bX [116,114,117,101] s=false by unfold bX;simp [he])
  have HI1:=af (show bX [102,97,108,115,101] s=false by unfold bX;simp [he])
  have HI2:=af (show bX [110,105,108] s=false by unfold bX;simp [he])
  have HI3:=af (show nE s=false by unfold nE;simp [he])
  have ez:(s.e == 0)=false:=by simpa using he
  rw [if_neg (by simp [he]),if_neg (by simp [he]),if_neg (by rw [HI0.out];decide),if_neg (by rw [HI1.out];decide),if_neg (by rw [HI2.out];decide),if_neg (by rw [HI3.out];decide)] at heq
  have nK:=af (fun W hW=>Hn.great E W _ tr s' hW heq)
  clear he heq
  obtain ⟨jq,hjq,hjl,e0,e1,e2,e3,e4,_,_,_,_,ef⟩:=hR2.here
  have Am:=ef 1
  have hll:=hR2.len
  clear hjq hjl hll ef e0 e2 e4
  clear Am e1
  go_wp2_with (first
   |(go_at_call 27;(with_reducible refine (au E _ s aB [116,114,117,101] ⟨#[116,114,117,101]⟩ rfl).mono ?_);rintro e w3 ⟨rfl,hg3⟩;rw [HI0.out];have gZ:=bA hR2 hg3;have hG3:=aL hG2 hg3;have aF:=bV ax hg3;have jh:=bV nT hg3;have aM:ag w3 w2.heap.size 24 (N7 0 0 0 ⟨#[]⟩ ⟨#[]⟩ (hdp s) (.slice none 0 0)):=ag.aC bz hg3)
   |(go_at_call 27;(with_reducible refine (au E _ s aB [102,97,108,115,101] ⟨#[102,97,108,115,101]⟩ rfl).mono ?_);rintro e w4 ⟨rfl,hg4⟩;rw [HI1.out];have jb:=bA gZ hg4;have hG4:=aL hG3 hg4;have aK:=aF.aC hg4;have iq:=jh.aC hg4;have aW:=aM.aC hg4)
   |(go_at_call 27;(with_reducible refine (au E _ s aB [110,105,108] ⟨#[110,105,108]⟩ rfl).mono ?_);rintro e w5 ⟨rfl,hg5⟩;rw [HI2.out];have jF:=bA jb hg5;have iw:=aL hG4 hg5;have aT:=aK.aC hg5;have gU:=iq.aC hg5;have aR:=aW.aC hg5)
   |(go_at_call 48;(with_reducible refine (gJ E _ s aB).mono ?_);rintro e w6 ⟨rfl,dA⟩;rw [HI3.out];have lu:=bA jF dA;have iX:=aL iw dA;have bn:=aT.aC dA;have IK:=bn.lt;have gI:=gU.aC dA;have bE:=aR.aC dA)
   |(go_at_call 134;(with_reducible refine (nK.out _ aB).mono ?_);rintro e w7 ⟨dZ,o5,k7,VO,m7,p7,t7,a7,yS,A7,c7,rfl,rfl,OL⟩;have lV:=bP iX dZ;have bW:=bn.call dZ (by omega);obtain ⟨_,EO,EP,ER,ES,ET,EU,EW,EX⟩:=bW.av;have VP:=OL.mono (lo':=w6.heap.size) (by simp)))
  exact aX Tryz.results116 rfl rfl dS ⟨aJ,aB,k7,VO,m7,p7,t7,a7,yS,A7,c7,rfl,rfl,aI.mono (lo:=w6.heap.size) (v:=.slice A7 yS.length c7) (ks:=yS) nS (by omega)⟩
end Go.Proofs.YtnhidldofjengaaGreatDoor
