/- Both parsers, part 10. -/
import Derived.Deep.LoopGhost
import Derived.Lib.MinMax
import Derived.IntWalk
import Derived.Test.YtnhidldofjengaaGreatDoorParK
import Derived.Test.YtnhidldofjengaaGreatDoorRrJ
import Derived.Test.YtnhidldofjengaaGreatDoorRqS
import Derived.Test.YtnhidldofjengaaGreatDoorRrK
import Derived.Test.YtnhidldofjengaaGreatDoorLexRD
import Derived.Test.YtnhidldofjengaaGreatDoorParP0
import Derived.Test.YtnhidldofjengaaGreatDoorParV
namespace Go.Proofs.YtnhidldofjengaaGreatDoor
open Go.RowKit
open List renaming getElem_toArray->gA,getElem_cons_zero->gB,getElem_cons_succ->gC,setIfInBounds_toArray->gD,set_cons_zero->gE,set_cons_succ->gF
set_option linter.unusedVariables false
set_option linter.unusedSimpArgs false
set_option maxRecDepth 100000
set_option maxHeartbeats 4000000
theorem JP (n:Nat) (hn:n+10<=cK) (H:∀m,m<=n->qQ m):SM5 (n+1):=by
 intro E w s h0 X k op m p t a ks A c end_ es tr s' h su xO dO fT kG tZ hlen hes hm heq
 subst hes
 have hbL:=E.bL
 have hR0:=h
 simp only [m5] at heq
 obtain ⟨t2,s2,h1,heq⟩:=bF heq
 simp only [Option.some.injEq,Prod.mk.injEq] at heq
 obtain ⟨rfl,rfl⟩:=heq
 have fG:=af h1
 clear h1
 go_enter Tryz.func132,Tryz.ntmps132
 go_wp2
 go_loopg [10] n (fun gk _ wr=>∃(aU:List Tr) (A1:Option Addr) (c1:Nat) (sx:St),RS E wr sx/\ag wr h0 24 (N7 k op m (bs p) (bs t) a (.slice A1 aU.length c1))/\ah wr E.L X (.slice A1 aU.length c1) aU/\Gr (fun q=>q=E.b\/q=h0\/(Value.slice A ks.length c).ownBlock=some q) w wr/\(∀q,(Value.slice A1 aU.length c1).ownBlock=some q->(Value.slice A ks.length c).ownBlock=some q\/w.heap.size<=q)/\aU.length+gk<=ks.length+n/\gk<=n/\m5 gk (.xA (.mk k op m p t a aU) end_) sx=some (t2,s2))
 case atStart=>exact ⟨ks,A,c,_,hR0,su,xO,(Gr.refl w),fun q h=>.inl h,Nat.le_refl _,Nat.le_refl _,fG.out⟩
 case round=>
  obtain ⟨aU,A1,c1,sx,gu,dP,fI,jk,gy,hlk,hgn,hq⟩:=hrel
  have Dy:w.heap.size<=wr.heap.size:=jk.size
  cases gk with
  |zero=>exact absurd hq (by simp [m5])
  |succ f=>
   obtain ⟨_,_,_,_,_,_,e3,_⟩:=gu.here
   have abO:=dP.lt
   have Hf:=H f (by omega)
   by_cases he:sx.e=0
   case neg=>
    have ez:(sx.e == 0)=false:=by simpa using he
    simp only [m5,show rH end_ sx=false from by unfold rH;rw [decide_eq_false he];rfl,Bool.false_eq_true,if_false,Option.some.injEq,Prod.mk.injEq] at hq
    obtain ⟨rfl,rfl⟩:=hq
    clear he
    go_wp2_with (first
     |(go_at_call 25;(with_reducible refine (aA E _ sx aB end_ (bs end_) rfl hm).mono ?_);rintro e bB ⟨rfl,fM,aV⟩;have gm:Gr (fun q=>q=E.b\/q=h0\/(Value.slice A ks.length c).ownBlock=some q) w bB:=Gr.trans aJ (Gr.mono aV (fun _ _ e=>.inl e));have bJ:ag bB h0 24 (N7 k op m (bs p) (bs t) a (.slice A1 aU.length c1)):=bU aV;have bZ:ah bB E.L X (.slice A1 aU.length c1) aU:=vJ aV))
    exact bodyPost_end (results_none rfl _ _ _) rfl ⟨rfl,fM,gm,_,_,_,_,_,_,_,_,_,rfl,bJ,bZ,gy,by omega⟩
   rw [he] at e3
   cases hi1:bX end_ sx with
   |true=>
    have HI1:=af hi1
    simp only [m5,show rH end_ sx=false from by unfold rH;rw [hi1];simp,Bool.false_eq_true,if_false,Option.some.injEq,Prod.mk.injEq] at hq
    obtain ⟨rfl,rfl⟩:=hq
    clear hi1 he
    go_wp2_with (first
     |(go_at_call 27;(with_reducible refine (au E _ sx aB end_ (bs end_) rfl hm).mono ?_);rintro e bB ⟨rfl,aV⟩;rw [HI1.out];have fM:RS E bB sx:=RS.below aB aV;have gm:Gr (fun q=>q=E.b\/q=h0\/(Value.slice A ks.length c).ownBlock=some q) w bB:=Gr.trans aJ (Gr.of_below aV);have bJ:ag bB h0 24 (N7 k op m (bs p) (bs t) a (.slice A1 aU.length c1)):=ag.aC bz aV;have bZ:ah bB E.L X (.slice A1 aU.length c1) aU:=ah.aC nR aV)
     |(go_at_call 25;(with_reducible refine (aA E _ sx aB end_ (bs end_) rfl hm).mono ?_);rintro e ek ⟨rfl,jY,dH⟩;have kK:=nV gm dH;have ig:=bJ.call dH (by omega);have jO:=dU bZ dH))
    exact bodyPost_end (results_none rfl _ _ _) rfl ⟨rfl,jY,kK,_,_,_,_,_,_,_,_,_,rfl,ig,jO,gy,by omega⟩
   |false=>
    have HI1:=af hi1
    simp only [m5,show rH end_ sx=true from by unfold rH;rw [hi1,decide_eq_true he];rfl,if_true] at hq
    obtain ⟨t1,s1,h1,hq⟩:=bF hq
    have HK:=af (fun W hW=>Hf.expr E W _ 1 t1 s1 (by decide) (by decide) hW h1)
    have HQ:=af hq
    clear hi1 he h1 hq
    go_wp2_with (first
     |(go_at_call 27;(with_reducible refine (au E _ sx aB end_ (bs end_) rfl hm).mono ?_);rintro e bB ⟨rfl,aV⟩;rw [HI1.out];have fM:RS E bB sx:=RS.below aB aV;have gm:Gr (fun q=>q=E.b\/q=h0\/(Value.slice A ks.length c).ownBlock=some q) w bB:=Gr.trans aJ (Gr.of_below aV);have qR:=aV.size;(try simp at qR);have Br:=fM.lt;have Dg:=fM.iy;have bJ:ag bB h0 24 (N7 k op m (bs p) (bs t) a (.slice A1 aU.length c1)):=ag.aC bz aV;have bZ:ah bB E.L X (.slice A1 aU.length c1) aU:=ah.aC nR aV))
    have Ff:∀q,X q->q < bB.heap.size:=fun q hq=>Nat.lt_of_lt_of_le (tZ q hq) (by omega)
    refine eX 14 5 7 8 9 10 13 3 6 12 E.b 80 #[.pointer (some ⟨E.b,0,none⟩),.int .i64 1] (fun _=>False) (fun W=>RS E W sx) (fun t W=>t=t1/\RS E W s1)
     bZ dO Ff bJ E.bL (by omega) fT fM.L (by omega) (kr E _ _ (by omega) (by omega)) fM (fun t=>bD E _ _ _ E.bL E.gL t) (fun t w u hd=>⟨hd.1,hd.2.setCell fT kG u⟩) (fun W hW=>(HK.out W hW).mono fun e w' h=>fH h) ?_ ?_
    ·rintro a w' c _ nL _
     exact absurd nL id
    rintro vals ek vC c12 u12 ⟨Ox,jY⟩ jO VE ig Dh
    obtain rfl:=Ox.symm
    dsimp only [bG,List.take_succ_cons,List.take_zero,List.take_nil]
    have kK:Gr (fun q=>q=E.b\/q=h0\/(Value.slice A ks.length c).ownBlock=some q) w ek:=Gr.wide gm VE (fun q hq hs=>hs.elim .inl (fun hs=>hs.elim (fun e=>.inr (.inl e)) (fun e=>(gy q e).elim (fun h=>.inr (.inr h)) (fun h=>by omega))))
    obtain ⟨bN,jf⟩:=aS (aU ++ [t1])
    have hl2:bN.length=aU.length+1:=by rw [<-jf,List.length_append];rfl
    have xP:∀q,(Value.slice vC bN.length c12).ownBlock=some q->(Value.slice A ks.length c).ownBlock=some q\/w.heap.size<=q:=fun q hq=>by
     rw [hl2] at hq
     exact (Dh q hq).elim (gy q) (fun h=>.inr (by omega))
    rw [jf,<-hl2] at jO
    rw [<-hl2] at ig
    have hlk2:bN.length+f<=ks.length+n:=by omega
    cases hi2:bX [44] s1 with
    |false=>
     have HI2:=af hi2
     have hq:=HQ.out
     simp only [hi2,Bool.false_eq_true,if_false,Option.some.injEq,Prod.mk.injEq,Tr.add,jf] at hq
     obtain ⟨rfl,rfl⟩:=hq
     clear hi2
     go_wp2_with (first
      |(go_at_call 27;(with_reducible refine (au E _ s1 aB [44] ⟨#[44]⟩ rfl).mono ?_);rintro e iP ⟨rfl,gz⟩;rw [HI2.out];have mW:RS E iP s1:=RS.below aB gz;have pz:=aL kK gz;have fO:ag iP h0 24 (N7 k op m (bs p) (bs t) a (.slice vC bN.length c12)):=ag.aC bz gz;have iH:ah iP E.L X (.slice vC bN.length c12) bN:=ah.aC nR gz)
      |(go_at_call 25;(with_reducible refine (aA E _ s1 aB end_ (bs end_) rfl hm).mono ?_);rintro e kD ⟨rfl,pE,mD⟩;have qU:=nV pz mD;have jG:=fO.call mD (by omega);have qw:=dU iH mD))
     exact bodyPost_end (results_none rfl _ _ _) rfl ⟨rfl,pE,qU,_,_,_,_,_,_,_,_,_,rfl,jG,qw,xP,by omega⟩
    |true=>
     have HI2:=af hi2
     have hq:=HQ.out
     simp only [hi2,if_true,Tr.add,jf] at hq
     have Cq:=af hq
     clear hi2 hq
     cases hi3:bX end_ (aj [44] s1) with
     |true=>
      have HI3:=af hi3
      have hcs:=show jN end_ s1=fE 5 (aj [44] s1) from by unfold jN;rw [hi3];rfl
      have Oy:=af hcs
      clear hi3 hcs
      go_wp2_with (first
       |(go_at_call 27;(with_reducible refine (au E _ s1 aB [44] ⟨#[44]⟩ rfl).mono ?_);rintro e iP ⟨rfl,gz⟩;rw [HI2.out];have mW:RS E iP s1:=RS.below aB gz;have pz:=aL kK gz;have fO:ag iP h0 24 (N7 k op m (bs p) (bs t) a (.slice vC bN.length c12)):=ag.aC bz gz;have iH:ah iP E.L X (.slice vC bN.length c12) bN:=ah.aC nR gz)
       |(go_at_call 25;(with_reducible refine (aA E _ s1 aB [44] ⟨#[44]⟩ rfl).mono ?_);rintro e kD ⟨rfl,pE,mD⟩;have qU:=nV pz mD;have jG:=fO.call mD (by omega);have qw:=dU iH mD)
       |(go_at_call 27;(with_reducible refine (au E _ (aj [44] s1) aB end_ (bs end_) rfl hm).mono ?_);rintro e jL ⟨rfl,j6⟩;rw [HI3.out];have qV:RS E jL (aj [44] s1):=RS.below aB j6;have Bt:=aL qU j6;have jP:=jG.aC j6;have oJ:=mR qw j6)
       |(go_at_call 47;(with_reducible refine (kV E _ (aj [44] s1) aB 5).mono ?_);rintro e w16 ⟨rfl,zQ,Dz⟩;have abP:=nV Bt Dz;have zR:=jP.call Dz (by omega);have Fg:=dU oJ Dz))
      go_roundg f
      case measure=>omega
      case rel=>exact ⟨bN,vC,c12,_,zQ,zR,Fg,abP,xP,hlk2,by omega,by rw [<-Oy.out];exact Cq.out⟩
     |false=>
      have HI3:=af hi3
      have hcs:=show jN end_ s1=aj [44] s1 from by unfold jN;rw [hi3];rfl
      have Oy:=af hcs
      clear hi3 hcs
      go_wp2_with (first
       |(go_at_call 27;(with_reducible refine (au E _ s1 aB [44] ⟨#[44]⟩ rfl).mono ?_);rintro e iP ⟨rfl,gz⟩;rw [HI2.out];have mW:RS E iP s1:=RS.below aB gz;have pz:=aL kK gz;have fO:ag iP h0 24 (N7 k op m (bs p) (bs t) a (.slice vC bN.length c12)):=ag.aC bz gz;have iH:ah iP E.L X (.slice vC bN.length c12) bN:=ah.aC nR gz)
       |(go_at_call 25;(with_reducible refine (aA E _ s1 aB [44] ⟨#[44]⟩ rfl).mono ?_);rintro e kD ⟨rfl,pE,mD⟩;have qU:=nV pz mD;have jG:=fO.call mD (by omega);have qw:=dU iH mD)
       |(go_at_call 27;(with_reducible refine (au E _ (aj [44] s1) aB end_ (bs end_) rfl hm).mono ?_);rintro e jL ⟨rfl,j6⟩;rw [HI3.out];have qV:RS E jL (aj [44] s1):=RS.below aB j6;have Bt:=aL qU j6;have jP:=jG.aC j6;have oJ:=mR qw j6))
      go_roundg f
      case measure=>omega
      case rel=>exact ⟨bN,vC,c12,_,qV,jP,oJ,Bt,xP,hlk2,by omega,by rw [<-Oy.out];exact Cq.out⟩
theorem Oz (n:Nat) (hn:n+10<=cK) (H:∀m,m<=n->qQ m):PM (n+1) (n+1) 81 .kinds:=by
 intro E w s h0 X k op m p t a ks A c tr s' h su xO dO fT kG tZ hlen heq
 have hbL:=E.bL
 have Hn:=H n (Nat.le_refl _)
 have hR0:=h
 simp only [m5] at heq
 obtain ⟨t2,s2,h1,heq⟩:=bF heq
 have fG:=af h1
 have fJ:=af heq
 clear h1 heq
 go_enter Tryz.func81,Tryz.ntmps81
 go_wp2_with (first
  |(go_at_call 25;(with_reducible refine (aA E _ s aB [40] ⟨#[40]⟩ rfl).mono ?_);rintro e w1 ⟨rfl,fB,hg1⟩;have hG1:Gr (fun q=>q=E.b\/q=h0\/(Value.slice A ks.length c).ownBlock=some q) w w1:=Gr.trans aJ (Gr.mono hg1 (fun _ _ e=>.inl e));have nY:ag w1 h0 24 (N7 k op m (bs p) (bs t) a (.slice A ks.length c)):=bU hg1;have qp:ah w1 E.L X (.slice A ks.length c) ks:=vJ hg1))
 go_loopg [10] n (fun gk _ wr=>∃(aU:List Tr) (A1:Option Addr) (c1:Nat) (sx:St),RS E wr sx/\ag wr h0 24 (N7 k op m (bs p) (bs t) a (.slice A1 aU.length c1))/\ah wr E.L X (.slice A1 aU.length c1) aU/\Gr (fun q=>q=E.b\/q=h0\/(Value.slice A ks.length c).ownBlock=some q) w wr/\(∀q,(Value.slice A1 aU.length c1).ownBlock=some q->(Value.slice A ks.length c).ownBlock=some q\/w.heap.size<=q)/\aU.length+gk<=ks.length+n/\gk<=n/\m5 gk (.Ez (.mk k op m p t a aU)) sx=some (t2,s2))
 case atStart=>exact ⟨ks,A,c,_,fB,nY,qp,hG1,fun q h=>.inl h,Nat.le_refl _,Nat.le_refl _,fG.out⟩
 case round=>
  obtain ⟨aU,A1,c1,sx,gu,dP,fI,jk,gy,hlk,hgn,hq⟩:=hrel
  have Dy:w.heap.size<=wr.heap.size:=jk.size
  cases gk with
  |zero=>exact absurd hq (by simp [m5])
  |succ f=>
   obtain ⟨_,_,_,_,_,_,e3,_⟩:=gu.here
   have abO:=dP.lt
   have Hf:=H f (by omega)
   by_cases he:sx.e=0
   case neg=>
    have ez:(sx.e == 0)=false:=by simpa using he
    simp only [m5,show rH [41] sx=false from by unfold rH;rw [decide_eq_false he];rfl,Bool.false_eq_true,if_false,Option.some.injEq,Prod.mk.injEq] at hq
    obtain ⟨rfl,rfl⟩:=hq
    clear he
    go_wp2_with (first
     |(go_at_call 25;(with_reducible refine (aA E _ sx aB [41] ⟨#[41]⟩ rfl).mono ?_);rintro e bB ⟨rfl,fM,aV⟩;have gm:Gr (fun q=>q=E.b\/q=h0\/(Value.slice A ks.length c).ownBlock=some q) w bB:=Gr.trans aJ (Gr.mono aV (fun _ _ e=>.inl e));have bJ:ag bB h0 24 (N7 k op m (bs p) (bs t) a (.slice A1 aU.length c1)):=bU aV;have bZ:ah bB E.L X (.slice A1 aU.length c1) aU:=vJ aV)
     |(go_at_call 98;have Fh:∀q,X q->q < bB.heap.size:=fun q hq=>Nat.lt_of_lt_of_le (tZ q hq) (gm).size;(with_reducible refine (Hn.result E _ (aj [41] sx) h0 X k op m p t a aU A1 c1 tr s' aB bz nR dO fT kG Fh (by omega) fJ.out).mono ?_);rintro e ek ⟨rfl,jY,dH,k9,YY,m9,p9,t9,a9,Te,A9,c9,VF,Tf,VG,VH,hl9⟩))
    exact bodyPost_end (results_none rfl _ _ _) rfl ⟨rfl,jY,Gr.wide gm dH (fun q hq hs=>hs.elim .inl (fun hs=>hs.elim (fun e=>.inr (.inl e)) (fun e=>(gy q e).elim (fun h=>.inr (.inr h)) (fun h=>by omega)))),_,_,_,_,_,_,_,_,_,VF,Tf,VG,fun q h=>(VH q h).elim (gy q) (fun h=>.inr (Nat.le_trans gm.size h)),by omega⟩
   rw [he] at e3
   cases hi1:bX [41] sx with
   |true=>
    have HI1:=af hi1
    simp only [m5,show rH [41] sx=false from by unfold rH;rw [hi1];simp,Bool.false_eq_true,if_false,Option.some.injEq,Prod.mk.injEq] at hq
    obtain ⟨rfl,rfl⟩:=hq
    clear hi1 he
    go_wp2_with (first
     |(go_at_call 27;(with_reducible refine (au E _ sx aB [41] ⟨#[41]⟩ rfl).mono ?_);rintro e bB ⟨rfl,aV⟩;rw [HI1.out];have fM:RS E bB sx:=RS.below aB aV;have gm:Gr (fun q=>q=E.b\/q=h0\/(Value.slice A ks.length c).ownBlock=some q) w bB:=Gr.trans aJ (Gr.of_below aV);have bJ:ag bB h0 24 (N7 k op m (bs p) (bs t) a (.slice A1 aU.length c1)):=ag.aC bz aV;have bZ:ah bB E.L X (.slice A1 aU.length c1) aU:=ah.aC nR aV)
     |(go_at_call 25;(with_reducible refine (aA E _ sx aB [41] ⟨#[41]⟩ rfl).mono ?_);rintro e ek ⟨rfl,jY,dH⟩;have kK:=nV gm dH;have ig:=bJ.call dH (by omega);have jO:=dU bZ dH)
     |(go_at_call 98;have Fh:∀q,X q->q < ek.heap.size:=fun q hq=>Nat.lt_of_lt_of_le (tZ q hq) (kK).size;(with_reducible refine (Hn.result E _ (aj [41] sx) h0 X k op m p t a aU A1 c1 tr s' aB bz nR dO fT kG Fh (by omega) fJ.out).mono ?_);rintro e iP ⟨rfl,mW,gz,k9,YY,m9,p9,t9,a9,Te,A9,c9,VF,Tf,VG,VH,hl9⟩))
    exact bodyPost_end (results_none rfl _ _ _) rfl ⟨rfl,mW,Gr.wide kK gz (fun q hq hs=>hs.elim .inl (fun hs=>hs.elim (fun e=>.inr (.inl e)) (fun e=>(gy q e).elim (fun h=>.inr (.inr h)) (fun h=>by omega)))),_,_,_,_,_,_,_,_,_,VF,Tf,VG,fun q h=>(VH q h).elim (gy q) (fun h=>.inr (Nat.le_trans kK.size h)),by omega⟩
   |false=>
    have HI1:=af hi1
    simp only [m5,show rH [41] sx=true from by unfold rH;rw [hi1,decide_eq_true he];rfl,if_true] at hq
    obtain ⟨t1,s1,h1,hq⟩:=bF hq
    have HK:=af (fun W hW=>Hf.kind E W _ t1 s1 hW h1)
    have HQ:=af hq
    clear hi1 he h1 hq
    go_wp2_with (first
     |(go_at_call 27;(with_reducible refine (au E _ sx aB [41] ⟨#[41]⟩ rfl).mono ?_);rintro e bB ⟨rfl,aV⟩;rw [HI1.out];have fM:RS E bB sx:=RS.below aB aV;have gm:Gr (fun q=>q=E.b\/q=h0\/(Value.slice A ks.length c).ownBlock=some q) w bB:=Gr.trans aJ (Gr.of_below aV);have qR:=aV.size;(try simp at qR);have Br:=fM.lt;have Dg:=fM.iy;have bJ:ag bB h0 24 (N7 k op m (bs p) (bs t) a (.slice A1 aU.length c1)):=ag.aC bz aV;have bZ:ah bB E.L X (.slice A1 aU.length c1) aU:=ah.aC nR aV))
    have Ff:∀q,X q->q < bB.heap.size:=fun q hq=>Nat.lt_of_lt_of_le (tZ q hq) (by omega)
    refine eX 14 5 7 8 9 10 13 3 6 12 E.b 79 #[.pointer (some ⟨E.b,0,none⟩)] (fun _=>False) (fun W=>RS E W sx) (fun t W=>t=t1/\RS E W s1)
     bZ dO Ff bJ E.bL (by omega) fT fM.L (by omega) (kr E _ _ (by omega) (by omega)) fM (fun t=>bD E _ _ _ E.bL E.gL t) (fun t w u hd=>⟨hd.1,hd.2.setCell fT kG u⟩) (fun W hW=>(HK.out W hW).mono fun e w' h=>fH h) ?_ ?_
    ·rintro a w' c _ nL _
     exact absurd nL id
    rintro vals ek vC c12 u12 ⟨Ox,jY⟩ jO VE ig Dh
    obtain rfl:=Ox.symm
    dsimp only [bG,List.take_succ_cons,List.take_zero,List.take_nil]
    have kK:Gr (fun q=>q=E.b\/q=h0\/(Value.slice A ks.length c).ownBlock=some q) w ek:=Gr.wide gm VE (fun q hq hs=>hs.elim .inl (fun hs=>hs.elim (fun e=>.inr (.inl e)) (fun e=>(gy q e).elim (fun h=>.inr (.inr h)) (fun h=>by omega))))
    obtain ⟨bN,jf⟩:=aS (aU ++ [t1])
    have hl2:bN.length=aU.length+1:=by rw [<-jf,List.length_append];rfl
    have xP:∀q,(Value.slice vC bN.length c12).ownBlock=some q->(Value.slice A ks.length c).ownBlock=some q\/w.heap.size<=q:=fun q hq=>by
     rw [hl2] at hq
     exact (Dh q hq).elim (gy q) (fun h=>.inr (by omega))
    rw [jf,<-hl2] at jO
    rw [<-hl2] at ig
    have hlk2:bN.length+f<=ks.length+n:=by omega
    cases hi2:bX [44] s1 with
    |false=>
     have HI2:=af hi2
     have hq:=HQ.out
     simp only [hi2,Bool.false_eq_true,if_false,Option.some.injEq,Prod.mk.injEq,Tr.add,jf] at hq
     obtain ⟨rfl,rfl⟩:=hq
     clear hi2
     go_wp2_with (first
      |(go_at_call 27;(with_reducible refine (au E _ s1 aB [44] ⟨#[44]⟩ rfl).mono ?_);rintro e iP ⟨rfl,gz⟩;rw [HI2.out];have mW:RS E iP s1:=RS.below aB gz;have pz:=aL kK gz;have fO:ag iP h0 24 (N7 k op m (bs p) (bs t) a (.slice vC bN.length c12)):=ag.aC bz gz;have iH:ah iP E.L X (.slice vC bN.length c12) bN:=ah.aC nR gz)
      |(go_at_call 25;(with_reducible refine (aA E _ s1 aB [41] ⟨#[41]⟩ rfl).mono ?_);rintro e kD ⟨rfl,pE,mD⟩;have qU:=nV pz mD;have jG:=fO.call mD (by omega);have qw:=dU iH mD)
      |(go_at_call 98;have Fh:∀q,X q->q < kD.heap.size:=fun q hq=>Nat.lt_of_lt_of_le (tZ q hq) (qU).size;(with_reducible refine (Hn.result E _ (aj [41] s1) h0 X k op m p t a bN vC c12 tr s' aB bz nR dO fT kG Fh (by omega) fJ.out).mono ?_);rintro e jL ⟨rfl,qV,j6,k9,YY,m9,p9,t9,a9,Te,A9,c9,VF,Tf,VG,VH,hl9⟩))
     exact bodyPost_end (results_none rfl _ _ _) rfl ⟨rfl,qV,Gr.wide qU j6 (fun q hq hs=>hs.elim .inl (fun hs=>hs.elim (fun e=>.inr (.inl e)) (fun e=>(xP q e).elim (fun h=>.inr (.inr h)) (fun h=>by omega)))),_,_,_,_,_,_,_,_,_,VF,Tf,VG,fun q h=>(VH q h).elim (xP q) (fun h=>.inr (Nat.le_trans qU.size h)),by omega⟩
    |true=>
     have HI2:=af hi2
     have hq:=HQ.out
     simp only [hi2,if_true,Tr.add,jf] at hq
     have Cq:=af hq
     clear hi2 hq
     cases hi3:bX [41] (aj [44] s1) with
     |true=>
      have HI3:=af hi3
      have hcs:=show jN [41] s1=fE 5 (aj [44] s1) from by unfold jN;rw [hi3];rfl
      have Oy:=af hcs
      clear hi3 hcs
      go_wp2_with (first
       |(go_at_call 27;(with_reducible refine (au E _ s1 aB [44] ⟨#[44]⟩ rfl).mono ?_);rintro e iP ⟨rfl,gz⟩;rw [HI2.out];have mW:RS E iP s1:=RS.below aB gz;have pz:=aL kK gz;have fO:ag iP h0 24 (N7 k op m (bs p) (bs t) a (.slice vC bN.length c12)):=ag.aC bz gz;have iH:ah iP E.L X (.slice vC bN.length c12) bN:=ah.aC nR gz)
       |(go_at_call 25;(with_reducible refine (aA E _ s1 aB [44] ⟨#[44]⟩ rfl).mono ?_);rintro e kD ⟨rfl,pE,mD⟩;have qU:=nV pz mD;have jG:=fO.call mD (by omega);have qw:=dU iH mD)
       |(go_at_call 27;(with_reducible refine (au E _ (aj [44] s1) aB [41] ⟨#[41]⟩ rfl).mono ?_);rintro e jL ⟨rfl,j6⟩;rw [HI3.out];have qV:RS E jL (aj [44] s1):=RS.below aB j6;have Bt:=aL qU j6;have jP:=jG.aC j6;have oJ:=mR qw j6)
       |(go_at_call 47;(with_reducible refine (kV E _ (aj [44] s1) aB 5).mono ?_);rintro e w16 ⟨rfl,zQ,Dz⟩;have abP:=nV Bt Dz;have zR:=jP.call Dz (by omega);have Fg:=dU oJ Dz))
      go_roundg f
      case measure=>omega
      case rel=>exact ⟨bN,vC,c12,_,zQ,zR,Fg,abP,xP,hlk2,by omega,by rw [<-Oy.out];exact Cq.out⟩
     |false=>
      have HI3:=af hi3
      have hcs:=show jN [41] s1=aj [44] s1 from by unfold jN;rw [hi3];rfl
      have Oy:=af hcs
      clear hi3 hcs
      go_wp2_with (first
       |(go_at_call 27;(with_reducible refine (au E _ s1 aB [44] ⟨#[44]⟩ rfl).mono ?_);rintro e iP ⟨rfl,gz⟩;rw [HI2.out];have mW:RS E iP s1:=RS.below aB gz;have pz:=aL kK gz;have fO:ag iP h0 24 (N7 k op m (bs p) (bs t) a (.slice vC bN.length c12)):=ag.aC bz gz;have iH:ah iP E.L X (.slice vC bN.length c12) bN:=ah.aC nR gz)
       |(go_at_call 25;(with_reducible refine (aA E _ s1 aB [44] ⟨#[44]⟩ rfl).mono ?_);rintro e kD ⟨rfl,pE,mD⟩;have qU:=nV pz mD;have jG:=fO.call mD (by omega);have qw:=dU iH mD)
       |(go_at_call 27;(with_reducible refine (au E _ (aj [44] s1) aB [41] ⟨#[41]⟩ rfl).mono ?_);rintro e jL ⟨rfl,j6⟩;rw [HI3.out];have qV:RS E jL (aj [44] s1):=RS.below aB j6;have Bt:=aL qU j6;have jP:=jG.aC j6;have oJ:=mR qw j6))
      go_roundg f
      case measure=>omega
      case rel=>exact ⟨bN,vC,c12,_,qV,jP,oJ,Bt,xP,hlk2,by omega,by rw [<-Oy.out];exact Cq.out⟩
theorem Me (n:Nat) (hn:n+10<=cK) (H:∀m,m<=n->qQ m):PM (n+1) (n+1) 83 .params:=by
 intro E w s h0 X k op m p t a ks A c tr s' h su xO dO fT kG tZ hlen heq
 have hbL:=E.bL
 have hgL:=E.gL
 have Hn:=H n (Nat.le_refl _)
 have hR0:=h
 simp only [m5] at heq
 obtain ⟨t2,s2,h1,heq⟩:=bF heq
 have fG:=af h1
 have fJ:=af heq
 clear h1 heq
 go_enter Tryz.func83,Tryz.ntmps83
 go_wp2_with (first
  |(go_at_call 25;(with_reducible refine (aA E _ s aB [40] ⟨#[40]⟩ rfl).mono ?_);rintro e w1 ⟨rfl,fB,hg1⟩;have hG1:Gr (fun q=>q=E.b\/q=h0\/(Value.slice A ks.length c).ownBlock=some q) w w1:=Gr.trans aJ (Gr.mono hg1 (fun _ _ e=>.inl e));have nY:ag w1 h0 24 (N7 k op m (bs p) (bs t) a (.slice A ks.length c)):=bU hg1;have qp:ah w1 E.L X (.slice A ks.length c) ks:=vJ hg1))
 go_loopg [10] n (fun gk _ wr=>∃(aU:List Tr) (A1:Option Addr) (c1:Nat) (sx:St),RS E wr sx/\ag wr h0 24 (N7 k op m (bs p) (bs t) a (.slice A1 aU.length c1))/\ah wr E.L X (.slice A1 aU.length c1) aU/\Gr (fun q=>q=E.b\/q=h0\/(Value.slice A ks.length c).ownBlock=some q) w wr/\(∀q,(Value.slice A1 aU.length c1).ownBlock=some q->(Value.slice A ks.length c).ownBlock=some q\/w.heap.size<=q)/\aU.length+gk<=ks.length+n/\gk<=n/\m5 gk (.AZ (.mk k op m p t a aU)) sx=some (t2,s2))
 case atStart=>exact ⟨ks,A,c,_,fB,nY,qp,hG1,fun q h=>.inl h,Nat.le_refl _,Nat.le_refl _,fG.out⟩
 case round=>
  obtain ⟨aU,A1,c1,sx,gu,dP,fI,jk,gy,hlk,hgn,hq⟩:=hrel
  have Dy:w.heap.size<=wr.heap.size:=jk.size
  cases gk with
  |zero=>exact absurd hq (by simp [m5])
  |succ f=>
   obtain ⟨_,_,_,_,_,_,e3,_⟩:=gu.here
   have abO:=dP.lt
   have Hf:=H f (by omega)
   by_cases he:sx.e=0
   case neg=>
    have ez:(sx.e == 0)=false:=by simpa using he
    simp only [m5,show rH [41] sx=false from by unfold rH;rw [decide_eq_false he];rfl,Bool.false_eq_true,if_false,Option.some.injEq,Prod.mk.injEq] at hq
    obtain ⟨rfl,rfl⟩:=hq
    clear he
    go_wp2_with (first
     |(go_at_call 25;(with_reducible refine (aA E _ sx aB [41] ⟨#[41]⟩ rfl).mono ?_);rintro e bB ⟨rfl,fM,aV⟩;have gm:Gr (fun q=>q=E.b\/q=h0\/(Value.slice A ks.length c).ownBlock=some q) w bB:=Gr.trans aJ (Gr.mono aV (fun _ _ e=>.inl e));have bJ:ag bB h0 24 (N7 k op m (bs p) (bs t) a (.slice A1 aU.length c1)):=bU aV;have bZ:ah bB E.L X (.slice A1 aU.length c1) aU:=vJ aV)
     |(go_at_call 98;have Fh:∀q,X q->q < bB.heap.size:=fun q hq=>Nat.lt_of_lt_of_le (tZ q hq) (gm).size;(with_reducible refine (Hn.result E _ (aj [41] sx) h0 X k op m p t a aU A1 c1 tr s' aB bz nR dO fT kG Fh (by omega) fJ.out).mono ?_);rintro e ek ⟨rfl,jY,dH,k9,YY,m9,p9,t9,a9,Te,A9,c9,VF,Tf,VG,VH,hl9⟩))
    exact bodyPost_end (results_none rfl _ _ _) rfl ⟨rfl,jY,Gr.wide gm dH (fun q hq hs=>hs.elim .inl (fun hs=>hs.elim (fun e=>.inr (.inl e)) (fun e=>(gy q e).elim (fun h=>.inr (.inr h)) (fun h=>by omega)))),_,_,_,_,_,_,_,_,_,VF,Tf,VG,fun q h=>(VH q h).elim (gy q) (fun h=>.inr (Nat.le_trans gm.size h)),by omega⟩
   rw [he] at e3
   cases hi1:bX [41] sx with
   |true=>
    have HI1:=af hi1
    simp only [m5,show rH [41] sx=false from by unfold rH;rw [hi1];simp,Bool.false_eq_true,if_false,Option.some.injEq,Prod.mk.injEq] at hq
    obtain ⟨rfl,rfl⟩:=hq
    clear hi1 he
    go_wp2_with (first
     |(go_at_call 27;(with_reducible refine (au E _ sx aB [41] ⟨#[41]⟩ rfl).mono ?_);rintro e bB ⟨rfl,aV⟩;rw [HI1.out];have fM:RS E bB sx:=RS.below aB aV;have gm:Gr (fun q=>q=E.b\/q=h0\/(Value.slice A ks.length c).ownBlock=some q) w bB:=Gr.trans aJ (Gr.of_below aV);have bJ:ag bB h0 24 (N7 k op m (bs p) (bs t) a (.slice A1 aU.length c1)):=ag.aC bz aV;have bZ:ah bB E.L X (.slice A1 aU.length c1) aU:=ah.aC nR aV)
     |(go_at_call 25;(with_reducible refine (aA E _ sx aB [41] ⟨#[41]⟩ rfl).mono ?_);rintro e ek ⟨rfl,jY,dH⟩;have kK:=nV gm dH;have ig:=bJ.call dH (by omega);have jO:=dU bZ dH)
     |(go_at_call 98;have Fh:∀q,X q->q < ek.heap.size:=fun q hq=>Nat.lt_of_lt_of_le (tZ q hq) (kK).size;(with_reducible refine (Hn.result E _ (aj [41] sx) h0 X k op m p t a aU A1 c1 tr s' aB bz nR dO fT kG Fh (by omega) fJ.out).mono ?_);rintro e iP ⟨rfl,mW,gz,k9,YY,m9,p9,t9,a9,Te,A9,c9,VF,Tf,VG,VH,hl9⟩))
    exact bodyPost_end (results_none rfl _ _ _) rfl ⟨rfl,mW,Gr.wide kK gz (fun q hq hs=>hs.elim .inl (fun hs=>hs.elim (fun e=>.inr (.inl e)) (fun e=>(gy q e).elim (fun h=>.inr (.inr h)) (fun h=>by omega)))),_,_,_,_,_,_,_,_,_,VF,Tf,VG,fun q h=>(VH q h).elim (gy q) (fun h=>.inr (Nat.le_trans kK.size h)),by omega⟩
   |false=>
    have HI1:=af hi1
    simp only [m5,show rH [41] sx=true from by unfold rH;rw [hi1,decide_eq_true he];rfl,if_true] at hq
    obtain ⟨t1,s1,h1,hq⟩:=bF hq
    have HK:=af (fun W hW=>Hf.kind E W _ t1 s1 hW h1)
    have HQ:=af hq
    clear hi1 he h1 hq
    go_wp2_with (first
     |(go_at_call 27;(with_reducible refine (au E _ sx aB [41] ⟨#[41]⟩ rfl).mono ?_);rintro e bB ⟨rfl,aV⟩;rw [HI1.out];have fM:RS E bB sx:=RS.below aB aV;have gm:Gr (fun q=>q=E.b\/q=h0\/(Value.slice A ks.length c).ownBlock=some q) w bB:=Gr.trans aJ (Gr.of_below aV);have qR:=aV.size;(try simp at qR);have bJ:ag bB h0 24 (N7 k op m (bs p) (bs t) a (.slice A1 aU.length c1)):=ag.aC bz aV;have bZ:ah bB E.L X (.slice A1 aU.length c1) aU:=ah.aC nR aV)
     |(go_at_call 26;(with_reducible refine (dR E _ sx aB).mono ?_);rintro e ek ⟨rfl,jY,dH⟩;have kK:=nV gm dH;have xQ:=dH.size;(try simp at xQ);have VW:=jY.lt;have ig:=bJ.call dH (by omega);have jO:=dU bZ dH))
    have VX:∀q,X q->q < ek.heap.size:=fun q hq=>Nat.lt_of_lt_of_le (tZ q hq) (by omega)
    obtain ⟨_,_,_,_,_,_,_,IJ,_⟩:=ig.av
    refine qW (S:=fun V=>Gr (fun q=>q=E.b) ek V) 12 (fun vals W=>vals 3=(.slice A1 aU.length c1)/\vals 10= .int .i64 (aU:List Tr).length/\vals 0=(.pointer (some ⟨h0,0,none⟩))/\RS E W s1/\Gr (·=E.b) ek W/\∃r q:Nat,vals 9= .agg #[.int .i64 12,.int .i64 0,.int .i64 0,.string ⟨#[]⟩,.string (bs (ay sx)),.int .i64 (hdp sx),.slice (some ⟨r,0,none⟩) 1 1]/\vals 11= .slice (some ⟨q,0,none⟩) 1 1/\aI W ek.heap.size (.slice (some ⟨r,0,none⟩) 1 1) [t1]/\aI W ek.heap.size (.slice (some ⟨q,0,none⟩) 1 1) [eU]) (by kernel_rfl) (by kernel_rfl) (Gr.refl _).drew (fun hS0=>?qY) ?hk
    case qY=>
     simp only [List.take_succ_cons,List.take_zero,List.take_nil]
     obtain ⟨iP,og⟩:=aS ek.drew
     rw [og] at hS0 |-
     have uH:Gr (fun q=>q=E.b) ek iP:=hS0
     clear hS0
     have mW:=dJ og (RS.drew jY)
     have pz:=bK og (Gr.drew kK)
     have Mf:ek.heap.size+0<=iP.heap.size:=by rw [<-og];exact Nat.le_refl _
     have fO:=aP og (ag.drew ig)
     have iH:=ko og (ah.drew jO)
     refine aQ 0 uH ?_
     refine aQ 1 uH ?_
     refine aQ 2 uH ?_
     refine jS 3 uH ?_ (fun w' hS=>(hS.cell (p:=⟨h0,6,none⟩) (by show h0 < _;omega) (by show ¬(h0=E.b);first|omega|(simp;omega))).trans IJ)
     refine aQ 4 uH ?_
     refine aQ 5 uH ?_
     refine aQ 6 uH ?_
     refine aQ 10 uH ?_
     refine jE (i:=7) (j:=11) (by kernel_rfl) rfl rfl rfl rfl ?_ ?_
     ·refine fP (args:=#[.pointer (some ⟨E.b,0,none⟩)]) (f:=79) (by unfold execOp;go_simp) ((HK.out iP mW).mono ?_)
      rintro e kD ⟨mD,pE,k14,OY,m14,p14,t14,a14,J5,KY,c14,ad3,rfl,Q6⟩
      have ad4:=af ad3
      clear ad3
      have qU:Gr (fun q=>q=E.b\/q=h0\/(Value.slice A ks.length c).ownBlock=some q) w kD:=Gr.trans pz (Gr.mono mD (fun _ _ e=>.inl e))
      have qX:Gr (fun q=>q=E.b) ek kD:=Gr.trans uH (Gr.mono mD (fun _ _ e=>by first|exact e|exact .inl e))
      have Y6:=mD.size;(try simp at Y6)
      have jG:=aD fO mD
      have qw:=dU iH mD
      refine And.intro qX ?_
      simp only [Act.put,gA,gB,gC,gD,gE,gF]
      refine jE (i:=8) (j:=11) (by kernel_rfl) rfl rfl rfl rfl ?_ ?_
      ·obtain ⟨jL,vg⟩:=aS (kD.alloc (.cells #[.int .i64 k14,.int .i64 OY,.int .i64 m14,.string (bs p14),.string (bs t14),.int .i64 a14,.slice KY J5.length c14] 24))
       have qV:=dJ vg (RS.alloc pE _)
       have VY:kD.heap.size+1<=jL.heap.size:=by rw [<-vg];simp
       have jP:=aP vg (ag.alloc jG _)
       have zT:=bK vg (Gr.alloc qX _)
       have ab3:aI jL ek.heap.size (.slice (some ⟨kD.heap.size,0,none⟩) 1 1) [Tr.mk k14 OY m14 p14 t14 a14 J5]:=by rw [<-vg];exact aI.lI (aI.mono Q6 (by omega)) (by omega)
       refine aY (v:=(.slice (some ⟨kD.heap.size,0,none⟩) 1 1)) (w':=jL) (by rw [<-vg];unfold execOp;go_simp) (And.intro zT ?_)
       simp only [Act.put,gA,gB,gC,gD,gE,gF]
       refine aQ 9 zT ?_
       refine qO 11 ?_
       obtain ⟨w16,mJ⟩:=aS (jL.alloc (.cells #[.int .i64 0,.int .i64 0,.int .i64 0,.string ⟨#[]⟩,.string ⟨#[]⟩,.int .i64 0,.slice none 0 0] 24))
       have zQ:=dJ mJ (RS.alloc qV _)
       have zU:aI w16 ek.heap.size (.slice (some ⟨kD.heap.size,0,none⟩) 1 1) [Tr.mk k14 OY m14 p14 t14 a14 J5]:=by rw [<-mJ];exact aI.alloc ab3 _
       have pV:=bK mJ (Gr.alloc zT _)
       have Bw:aI w16 ek.heap.size (.slice (some ⟨jL.heap.size,0,none⟩) 1 1) [eU]:=by rw [<-mJ];exact aI.zero _ (by omega)
       refine aY (v:=(.slice (some ⟨jL.heap.size,0,none⟩) 1 1)) (w':=w16) (by rw [<-mJ];unfold execOp;go_simp) (And.intro pV ?_)
       simp only [Act.put,gA,gB,gC,gD,gE,gF]
       refine eZ ?_
       have Mg:Gr (·=E.b) ek w16:=pV.mono (fun q _ e=>by first|exact e|(rcases e with e|e <;> first|exact e|(exfalso;omega)))
       refine PQ.mk (fun i=>match i with|0=>.pointer (some ⟨h0,0,none⟩)|1=>.pointer (some ⟨h0,0,none⟩)|2=>.pointer (some ⟨h0,6,none⟩)|3=>.slice A1 aU.length c1|4=>.string (bs (ay sx))|5=>.int .i64 (hdp sx)|6=>.pointer (some ⟨E.b,0,none⟩)|7=>.agg #[.int .i64 k14,.int .i64 OY,.int .i64 m14,.string (bs p14),.string (bs t14),.int .i64 a14,.slice KY J5.length c14]|8=>.slice (some ⟨kD.heap.size,0,none⟩) 1 1|9=>.agg #[.int .i64 12,.int .i64 0,.int .i64 0,.string ⟨#[]⟩,.string (bs (ay sx)),.int .i64 (hdp sx),.slice (some ⟨kD.heap.size,0,none⟩) 1 1]|10=>.int .i64 (aU:List Tr).length|11=>.slice (some ⟨jL.heap.size,0,none⟩) 1 1|_=>undef) (by kernel_rfl) ?_
       exact ⟨rfl,rfl,rfl,zQ,Mg,_,_,rfl,rfl,(by have hq:=zU;rw [<-ad4.out] at hq;exact hq),Bw⟩
      ·obtain ⟨jL,vg⟩:=aS (kD.alloc (.cells #[.int .i64 0,.int .i64 0,.int .i64 0,.string ⟨#[]⟩,.string ⟨#[]⟩,.int .i64 0,.slice none 0 0] 24))
       have qV:=dJ vg (RS.alloc pE _)
       have VY:kD.heap.size+1<=jL.heap.size:=by rw [<-vg];simp
       have jP:=aP vg (ag.alloc jG _)
       have Y7:aI jL iP.heap.size (.slice KY J5.length c14) J5:=by rw [<-vg];exact aI.alloc Q6 _
       have zT:=bK vg (Gr.alloc qX _)
       have Bz:aI jL ek.heap.size (.slice (some ⟨kD.heap.size,0,none⟩) 1 1) [eU]:=by rw [<-vg];exact aI.zero _ (by omega)
       refine aY (v:=(.slice (some ⟨kD.heap.size,0,none⟩) 1 1)) (w':=jL) (by rw [<-vg];unfold execOp;go_simp) (And.intro zT ?_)
       simp only [Act.put,gA,gB,gC,gD,gE,gF]
       refine qO 8 ?_
       obtain ⟨w16,mJ⟩:=aS (jL.alloc (.cells #[.int .i64 k14,.int .i64 OY,.int .i64 m14,.string (bs p14),.string (bs t14),.int .i64 a14,.slice KY J5.length c14] 24))
       have zQ:=dJ mJ (RS.alloc qV _)
       have Bw:aI w16 ek.heap.size (.slice (some ⟨kD.heap.size,0,none⟩) 1 1) [eU]:=by rw [<-mJ];exact aI.alloc Bz _
       have pV:=bK mJ (Gr.alloc zT _)
       have zU:aI w16 ek.heap.size (.slice (some ⟨jL.heap.size,0,none⟩) 1 1) [Tr.mk k14 OY m14 p14 t14 a14 J5]:=by rw [<-mJ];exact aI.lI (aI.mono Y7 (by omega)) (by omega)
       refine aY (v:=(.slice (some ⟨jL.heap.size,0,none⟩) 1 1)) (w':=w16) (by rw [<-mJ];unfold execOp;go_simp) (And.intro pV ?_)
       simp only [Act.put,gA,gB,gC,gD,gE,gF]
       refine aQ 9 pV ?_
       refine eZ ?_
       have Mg:Gr (·=E.b) ek w16:=pV.mono (fun q _ e=>by first|exact e|(rcases e with e|e <;> first|exact e|(exfalso;omega)))
       refine PQ.mk (fun i=>match i with|0=>.pointer (some ⟨h0,0,none⟩)|1=>.pointer (some ⟨h0,0,none⟩)|2=>.pointer (some ⟨h0,6,none⟩)|3=>.slice A1 aU.length c1|4=>.string (bs (ay sx))|5=>.int .i64 (hdp sx)|6=>.pointer (some ⟨E.b,0,none⟩)|7=>.agg #[.int .i64 k14,.int .i64 OY,.int .i64 m14,.string (bs p14),.string (bs t14),.int .i64 a14,.slice KY J5.length c14]|8=>.slice (some ⟨jL.heap.size,0,none⟩) 1 1|9=>.agg #[.int .i64 12,.int .i64 0,.int .i64 0,.string ⟨#[]⟩,.string (bs (ay sx)),.int .i64 (hdp sx),.slice (some ⟨jL.heap.size,0,none⟩) 1 1]|10=>.int .i64 (aU:List Tr).length|11=>.slice (some ⟨kD.heap.size,0,none⟩) 1 1|_=>undef) (by kernel_rfl) ?_
       exact ⟨rfl,rfl,rfl,zQ,Mg,_,_,rfl,rfl,(by have hq:=zU;rw [<-ad4.out] at hq;exact hq),Bw⟩
     ·obtain ⟨kD,oh⟩:=aS (iP.alloc (.cells #[.int .i64 0,.int .i64 0,.int .i64 0,.string ⟨#[]⟩,.string ⟨#[]⟩,.int .i64 0,.slice none 0 0] 24))
      have pE:=dJ oh (RS.alloc mW _)
      have qU:=bK oh (Gr.alloc pz _)
      have Y6:iP.heap.size+1<=kD.heap.size:=by rw [<-oh];simp
      have jG:=aP oh (ag.alloc fO _)
      have qw:=ko oh (ah.alloc iH _)
      have qX:=bK oh (Gr.alloc uH _)
      have Y8:aI kD ek.heap.size (.slice (some ⟨iP.heap.size,0,none⟩) 1 1) [eU]:=by rw [<-oh];exact aI.zero _ (by omega)
      refine aY (v:=(.slice (some ⟨iP.heap.size,0,none⟩) 1 1)) (w':=kD) (by rw [<-oh];unfold execOp;go_simp) (And.intro qX ?_)
      simp only [Act.put,gA,gB,gC,gD,gE,gF]
      refine qO 7 ?_
      refine fP (args:=#[.pointer (some ⟨E.b,0,none⟩)]) (f:=79) (by unfold execOp;go_simp) ((HK.out kD pE).mono ?_)
      rintro e jL ⟨j6,qV,k15,Mh,m15,Z5,t15,Z6,Mi,GZ,c15,VZ,rfl,J6⟩
      have ab4:=af VZ
      clear VZ
      have zT:Gr (fun q=>q=E.b) ek jL:=Gr.trans qX (Gr.mono j6 (fun _ _ e=>by first|exact e|exact .inl e))
      have VY:=j6.size;(try simp at VY)
      have jP:=aD jG j6
      have Bz:=YI Y8 j6
      refine And.intro zT ?_
      simp only [Act.put,gA,gB,gC,gD,gE,gF]
      refine qO 8 ?_
      obtain ⟨w16,mJ⟩:=aS (jL.alloc (.cells #[.int .i64 k15,.int .i64 Mh,.int .i64 m15,.string (bs Z5),.string (bs t15),.int .i64 Z6,.slice GZ Mi.length c15] 24))
      have zQ:=dJ mJ (RS.alloc qV _)
      have Bw:aI w16 ek.heap.size (.slice (some ⟨iP.heap.size,0,none⟩) 1 1) [eU]:=by rw [<-mJ];exact aI.alloc Bz _
      have pV:=bK mJ (Gr.alloc zT _)
      have zU:aI w16 ek.heap.size (.slice (some ⟨jL.heap.size,0,none⟩) 1 1) [Tr.mk k15 Mh m15 Z5 t15 Z6 Mi]:=by rw [<-mJ];exact aI.lI (aI.mono J6 (by omega)) (by omega)
      refine aY (v:=(.slice (some ⟨jL.heap.size,0,none⟩) 1 1)) (w':=w16) (by rw [<-mJ];unfold execOp;go_simp) (And.intro pV ?_)
      simp only [Act.put,gA,gB,gC,gD,gE,gF]
      refine aQ 9 pV ?_
      refine eZ ?_
      have Mg:Gr (·=E.b) ek w16:=pV.mono (fun q _ e=>by first|exact e|(rcases e with e|e <;> first|exact e|(exfalso;omega)))
      refine PQ.mk (fun i=>match i with|0=>.pointer (some ⟨h0,0,none⟩)|1=>.pointer (some ⟨h0,0,none⟩)|2=>.pointer (some ⟨h0,6,none⟩)|3=>.slice A1 aU.length c1|4=>.string (bs (ay sx))|5=>.int .i64 (hdp sx)|6=>.pointer (some ⟨E.b,0,none⟩)|7=>.agg #[.int .i64 k15,.int .i64 Mh,.int .i64 m15,.string (bs Z5),.string (bs t15),.int .i64 Z6,.slice GZ Mi.length c15]|8=>.slice (some ⟨jL.heap.size,0,none⟩) 1 1|9=>.agg #[.int .i64 12,.int .i64 0,.int .i64 0,.string ⟨#[]⟩,.string (bs (ay sx)),.int .i64 (hdp sx),.slice (some ⟨jL.heap.size,0,none⟩) 1 1]|10=>.int .i64 (aU:List Tr).length|11=>.slice (some ⟨iP.heap.size,0,none⟩) 1 1|_=>undef) (by kernel_rfl) ?_
      exact ⟨rfl,rfl,rfl,zQ,Mg,_,_,rfl,rfl,(by have hq:=zU;rw [<-ab4.out] at hq;exact hq),Bw⟩
    case hk=>
    rintro vals w62 ⟨V3,ad5,ev0,J7,Mj,r62,q62,Z8,V4,Z9,aaa⟩
    show wpAnyH _ _ _ _ _ 6 _ _ _
    dsimp only [bG,List.take_succ_cons,List.take_zero,List.take_nil]
    simp only [Act.put,gA,gB,gC,gD,gE,gF]
    rw [V3,ad5,ev0,Z8,V4]
    have ad6:=Mj.size
    have Mk:ah w62 E.L X (.slice A1 aU.length c1) aU:=jO.gr Mj (fun q h1 _ _ h2=>by have:=E.bL;omega)
    have aab:ag w62 h0 24 (N7 k op m (bs p) (bs t) a (.slice A1 aU.length c1)):=Mj.blk ig (by show ¬h0=E.b;omega)
    refine oI 12 rfl (sS (N:=ek.heap.size) (h:=h0) (k:=12) (op:=0) (m:=0) (p:=[]) (t:=(ay sx)) (at_:=(hdp sx)) (us:=[t1]) Mk dO VX (fun q hq=>(jO.own hq).2.1) aaa Z9 (by have:=jY.L;omega) ad6 (by omega) _ _ rfl rfl rfl ?_)
    intro Ml Ct BR Q7 aac Q8 V5 aad aae ad7
    refine And.intro trivial ?_
    simp only [Act.put,gA,gB,gC,gD,gE,gF]
    refine Jl 13 (.pointer (some ⟨Ml,(aU:List Tr).length*7,none⟩)) trivial ?_ (he:=fun w' _=>Ii _ _ _ _ _ _ _ Ml ((aU:List Tr).length+1) Ct (aU:List Tr).length _ rfl rfl (by omega))
    simp only [Act.put,gA,gB,gC,gD,gE,gF]
    refine Jl 15 (.pointer (some ⟨h0,0,none⟩)) trivial ?_
    simp only [Act.put,gA,gB,gC,gD,gE,gF]
    refine Jl 16 (.pointer (some ⟨h0,6,none⟩)) trivial ?_
    simp only [Act.put,gA,gB,gC,gD,gE,gF]
    have aaf:ag BR h0 24 (N7 k op m (bs p) (bs t) a (.slice A1 aU.length c1)):=Q8.blk aab (fun e=>Mk.1 _ e dO)
    refine rJ 14 17 E.b h0 E.L Ml Ct 1 35 ((hdp sx)) (by kernel_rfl) (by kernel_rfl) (by kernel_rfl) (by kernel_rfl) (by kernel_rfl) ⟨_,_,_,rfl⟩ ⟨_,_,_,rfl⟩ rfl rfl rfl rfl Q7 aac dO aad aae aaf ?_
    intro BS rR V6 rT
    simp only [Act.put,gA,gB,gC,gD,gE,gF]
    have Mm:Gr (fun q=>q=E.b\/q=h0\/(Value.slice A1 aU.length c1).ownBlock=some q) ek BS:=((Mj.mono (fun q _ e=>.inl e)).trans (Q8.mono (fun q _ e=>.inr (.inr e)))).wide V6 (fun q hq e=>e.elim (fun e=>by subst e;exact V5.elim (fun h=>.inr (.inr h)) (fun h=>by have:=Mj.size;omega)) (fun e=>.inr (.inl e)))
    have Q9:∀q,(Value.slice (some ⟨Ml,0,none⟩) ((aU:List Tr).length+1) Ct).ownBlock=some q->(Value.slice A1 aU.length c1).ownBlock=some q\/ek.heap.size<=q:=fun q hq=>by
     have e:Ml=q:=Option.some.inj hq
     subst e
     exact V5.imp id (fun h=>by omega)
    have zV:RS E BS s1:=(J7.gr Q8 (fun e=>(by have:=(Mk.own e).1;have:=E.bL;omega)) (fun e=>(by have:=(Mk.own e).1;have:=E.gL;omega))).gr V6 (fun e=>e.elim (fun e=>by have h9:=(Q7.own (g:=Ml) rfl).1;have:=E.bL;omega) (fun e=>fT e.symm)) (fun e=>e.elim (fun e=>by have h9:=(Q7.own (g:=Ml) rfl).1;have:=E.gL;omega) (fun e=>kG e.symm))
    clear Q7 aac Q8 V5 aad aae ad7 aaf aab Mk aaa Z9 V3 ad5 Z8 V4 V6
    have hG63:Gr (fun q=>q=E.b\/q=h0\/(Value.slice A ks.length c).ownBlock=some q) w BS:=Gr.wide kK Mm (fun q hq hs=>hs.elim .inl (fun hs=>hs.elim (fun e=>.inr (.inl e)) (fun e=>(gy q e).elim (fun h=>.inr (.inr h)) (fun h=>by omega))))
    obtain ⟨bN,jf⟩:=aS (aU ++ [Tr.mk 12 0 0 [] (ay sx) (hdp sx) [t1]])
    have hl2:bN.length=aU.length+1:=by rw [<-jf,List.length_append];rfl
    have J8:∀q,(Value.slice (some ⟨Ml,0,none⟩) bN.length Ct).ownBlock=some q->(Value.slice A ks.length c).ownBlock=some q\/w.heap.size<=q:=fun q hq=>by
     rw [hl2] at hq
     exact (Q9 q hq).elim (gy q) (fun h=>.inr (by omega))
    rw [jf,<-hl2] at rR
    rw [<-hl2] at rT
    have hlk2:bN.length+f<=ks.length+n:=by omega
    cases hi2:bX [44] s1 with
    |false=>
     have HI2:=af hi2
     have hq:=HQ.out
     simp only [hi2,Bool.false_eq_true,if_false,Option.some.injEq,Prod.mk.injEq,Tr.add,jf] at hq
     obtain ⟨rfl,rfl⟩:=hq
     clear hi2
     go_wp2_with (first
      |(go_at_call 27;(with_reducible refine (au E _ s1 aB [44] ⟨#[44]⟩ rfl).mono ?_);rintro e BR ⟨rfl,qA⟩;rw [HI2.out];have Fz:=bA zV qA;have yU:=aL hG63 qA;have pF:ag BR h0 24 (N7 k op m (bs p) (bs t) a (.slice (some ⟨Ml,0,none⟩) bN.length Ct)):=ag.aC bz qA;have qZ:ah BR E.L X (.slice (some ⟨Ml,0,none⟩) bN.length Ct) bN:=ah.aC nR qA)
      |(go_at_call 25;(with_reducible refine (aA E _ s1 aB [41] ⟨#[41]⟩ rfl).mono ?_);rintro e zB ⟨rfl,Cu,iR⟩;have uI:=nV yU iR;have mX:=pF.call iR (by omega);have nN:=dU qZ iR)
      |(go_at_call 98;have Fh:∀q,X q->q < zB.heap.size:=fun q hq=>Nat.lt_of_lt_of_le (tZ q hq) (uI).size;(with_reducible refine (Hn.result E _ (aj [41] s1) h0 X k op m p t a bN (some ⟨Ml,0,none⟩) Ct tr s' aB bz nR dO fT kG Fh (by omega) fJ.out).mono ?_);rintro e DV ⟨rfl,sI,jH,k9,YY,m9,p9,t9,a9,Te,A9,c9,VF,Tf,VG,VH,hl9⟩))
     exact bodyPost_end (results_none rfl _ _ _) rfl ⟨rfl,sI,Gr.wide uI jH (fun q hq hs=>hs.elim .inl (fun hs=>hs.elim (fun e=>.inr (.inl e)) (fun e=>(J8 q e).elim (fun h=>.inr (.inr h)) (fun h=>by omega)))),_,_,_,_,_,_,_,_,_,VF,Tf,VG,fun q h=>(VH q h).elim (J8 q) (fun h=>.inr (Nat.le_trans uI.size h)),by omega⟩
    |true=>
     have HI2:=af hi2
     have hq:=HQ.out
     simp only [hi2,if_true,Tr.add,jf] at hq
     have Cq:=af hq
     clear hi2 hq
     cases hi3:bX [41] (aj [44] s1) with
     |true=>
      have HI3:=af hi3
      have hcs:=show jN [41] s1=fE 5 (aj [44] s1) from by unfold jN;rw [hi3];rfl
      have Oy:=af hcs
      clear hi3 hcs
      go_wp2_with (first
       |(go_at_call 27;(with_reducible refine (au E _ s1 aB [44] ⟨#[44]⟩ rfl).mono ?_);rintro e BR ⟨rfl,qA⟩;rw [HI2.out];have Fz:=bA zV qA;have yU:=aL hG63 qA;have pF:ag BR h0 24 (N7 k op m (bs p) (bs t) a (.slice (some ⟨Ml,0,none⟩) bN.length Ct)):=ag.aC bz qA;have qZ:ah BR E.L X (.slice (some ⟨Ml,0,none⟩) bN.length Ct) bN:=ah.aC nR qA)
       |(go_at_call 25;(with_reducible refine (aA E _ s1 aB [44] ⟨#[44]⟩ rfl).mono ?_);rintro e zB ⟨rfl,Cu,iR⟩;have uI:=nV yU iR;have mX:=pF.call iR (by omega);have nN:=dU qZ iR)
       |(go_at_call 27;(with_reducible refine (au E _ (aj [44] s1) aB [41] ⟨#[41]⟩ rfl).mono ?_);rintro e DV ⟨rfl,jH⟩;rw [HI3.out];have sI:RS E DV (aj [44] s1):=RS.below aB jH;have ug:=aL uI jH;have jQ:=mX.aC jH;have kL:=mR nN jH)
       |(go_at_call 47;(with_reducible refine (kV E _ (aj [44] s1) aB 5).mono ?_);rintro e yD ⟨rfl,FB,nO⟩;have xU:=nV ug nO;have nP:=jQ.call nO (by omega);have mF:=dU kL nO))
      go_roundg f
      case measure=>omega
      case rel=>exact ⟨bN,(some ⟨Ml,0,none⟩),Ct,_,FB,nP,mF,xU,J8,hlk2,by omega,by rw [<-Oy.out];exact Cq.out⟩
     |false=>
      have HI3:=af hi3
      have hcs:=show jN [41] s1=aj [44] s1 from by unfold jN;rw [hi3];rfl
      have Oy:=af hcs
      clear hi3 hcs
      go_wp2_with (first
       |(go_at_call 27;(with_reducible refine (au E _ s1 aB [44] ⟨#[44]⟩ rfl).mono ?_);rintro e BR ⟨rfl,qA⟩;rw [HI2.out];have Fz:=bA zV qA;have yU:=aL hG63 qA;have pF:ag BR h0 24 (N7 k op m (bs p) (bs t) a (.slice (some ⟨Ml,0,none⟩) bN.length Ct)):=ag.aC bz qA;have qZ:ah BR E.L X (.slice (some ⟨Ml,0,none⟩) bN.length Ct) bN:=ah.aC nR qA)
       |(go_at_call 25;(with_reducible refine (aA E _ s1 aB [44] ⟨#[44]⟩ rfl).mono ?_);rintro e zB ⟨rfl,Cu,iR⟩;have uI:=nV yU iR;have mX:=pF.call iR (by omega);have nN:=dU qZ iR)
       |(go_at_call 27;(with_reducible refine (au E _ (aj [44] s1) aB [41] ⟨#[41]⟩ rfl).mono ?_);rintro e DV ⟨rfl,jH⟩;rw [HI3.out];have sI:RS E DV (aj [44] s1):=RS.below aB jH;have ug:=aL uI jH;have jQ:=mX.aC jH;have kL:=mR nN jH))
      go_roundg f
      case measure=>omega
      case rel=>exact ⟨bN,(some ⟨Ml,0,none⟩),Ct,_,sI,jQ,kL,ug,J8,hlk2,by omega,by rw [<-Oy.out];exact Cq.out⟩
theorem O1 (n:Nat) (hn:n+10<=cK) (H:∀m,m<=n->qQ m):TM (n+1):=by
 intro E w s x tr s' h hkk heq
 have hlt:=h.lt
 have hgt:=h.iy
 have hne:=h.ne
 have hbL:=E.bL
 have hgL:=E.gL
 have hEL:=h.L
 have Hn:=H n (Nat.le_refl _)
 have hR0:=h
 have HKK:=af hkk
 clear hkk
 simp only [m5] at heq
 obtain ⟨jq,hjq,hjl,_,e1,_,_,_,_,_,_,_,ef⟩:=h.here
 have Am:=ef 1
 have hll:=h.len
 have j0:(0:Int)<=(jq:Int):=by omega
 have j2:(jq:Int)<=8193:=by omega
 clear ef hjl hll
 have iY:=ic h HKK.out
 rw [hjq] at iY
 clear hjq
 go_enter Tryz.func140,Tryz.ntmps140
 go_wp2
 refine nG (P:=fun W=>RS E W s.tl/\Gr (·=E.b) w W/\ag W w.heap.size 53 (T4 x.1.k (bs x.1.t) x.1.n x.2)/\ag W (w.heap.size+1) 24 Z7/\w.heap.size+2<=W.heap.size) ⟨aB,aJ,bz,bz,(by first|(simp;done)|(simp;omega))⟩ ?_
 rintro w1 ⟨fB,hG1,We,az,hs1⟩
 have kW:=fB.lt
 have oP:=fB.iy
 have ajl:=We.lt
 have mo:=az.lt
 have Rc:∀q,(fun q=>q < w1.heap.size) q->q < w1.heap.size:=fun q hq=>hq
 obtain ⟨_,amT,ahh,amU,ahi,amV⟩:=We.jX
 refine mM (S:=fun V=>Gr (fun q=>q=E.b) w1 V) (fun vals W=>∃z r:Nat,vals 9= .pointer (some ⟨z,0,none⟩)/\RS E W (aj [40] s.tl)/\Gr (·=E.b) w W/\ag W w.heap.size 53 (T4 x.1.k (bs x.1.t) x.1.n x.2)/\ag W (w.heap.size+1) 24 Z7/\ag W z 24 (N7 33 0 0 ⟨#[]⟩ ⟨#[]⟩ (hdp s.tl) (.slice (some ⟨r,0,none⟩) 1 1))/\ah W E.L (fun q=>q < w1.heap.size\/q=z) (.slice (some ⟨r,0,none⟩) 1 1) [Tr.mk 30 0 0 [] x.1.t x.2 []]/\w1.heap.size<=z/\w1.heap.size<=W.heap.size) (by kernel_rfl) (Gr.refl _).drew (fun hS0=>?qY) ?hk
 case qY=>
  obtain ⟨w2,hV2⟩:=aS w1.drew
  rw [hV2] at hS0 |-
  have hS2:Gr (fun q=>q=E.b) w1 w2:=hS0
  clear hS0
  have hR2:=dJ hV2 (RS.drew fB)
  have hG2:=bK hV2 (Gr.drew hG1)
  have hs2:w1.heap.size+0<=w2.heap.size:=by rw [<-hV2];exact Nat.le_refl _
  have ou:=hR2.lt
  have ql:=hR2.iy
  have nT:=aP hV2 (ag.drew We)
  have ax:=aP hV2 (ag.drew az)
  have jT:=ax.lt
  refine aQ 0 hS2 ?_
  refine aQ 2 hS2 ?_
  refine jS 3 hS2 ?_ (fun w' hS=>(hS.cell (p:=⟨w.heap.size,1,none⟩) (by show w.heap.size < _;omega) (by show ¬(w.heap.size=E.b);first|omega|(simp;omega))).trans ahh)
  refine aQ 4 hS2 ?_
  refine jS 5 hS2 ?_ (fun w' hS=>(hS.cell (p:=⟨w.heap.size,3,none⟩) (by show w.heap.size < _;omega) (by show ¬(w.heap.size=E.b);first|omega|(simp;omega))).trans ahi)
  refine aQ 6 hS2 ?_
  refine J4 (i:=1) (j:=7) (k:=9) (by kernel_rfl) rfl rfl rfl rfl rfl rfl ?_ ?_ ?_
  ·refine fP (args:=#[.pointer (some ⟨E.b,0,none⟩),.string ⟨#[40]⟩]) (f:=25) (by unfold execOp;go_simp) ((aA E _ s.tl hR2 [40] ⟨#[40]⟩ rfl).mono ?_)
   rintro e w3 ⟨rfl,gZ,hg3⟩
   have hG3:Gr (·=E.b) w w3:=Gr.trans hG2 (Gr.mono hg3 (fun _ _ e=>e))
   have IM:Gr (fun q=>q=E.b) w1 w3:=Gr.trans hS2 (Gr.mono hg3 (fun _ _ e=>by first|exact e|exact .inl e))
   have hs3:=hg3.size;(try simp at hs3)
   have zP:=gZ.lt
   have Du:=gZ.iy
   have jh:=aD nT hg3
   have aF:=aD ax hg3
   have uX:=aF.lt
   refine And.intro IM ?_
   simp only [Act.put,gA,gB,gC,gD,gE,gF]
   refine jE (i:=7) (j:=9) (by kernel_rfl) rfl rfl rfl rfl ?_ ?_
   ·obtain ⟨w4,xh⟩:=aS (w3.alloc (.cells #[.int .i64 30,.int .i64 0,.int .i64 0,.string ⟨#[]⟩,.string (bs x.1.t),.int .i64 x.2,.slice none 0 0] 24))
    have jb:=dJ xh (RS.alloc gZ _)
    have hG4:=bK xh (Gr.alloc hG3 _)
    have hs4:w3.heap.size+1<=w4.heap.size:=by rw [<-xh];simp
    have LM:=jb.lt
    have JK:=jb.iy
    have iq:=aP xh (ag.alloc jh _)
    have aK:=aP xh (ag.alloc aF _)
    have Fb:=aK.lt
    have fU:=bK xh (Gr.alloc IM _)
    have FE:ah w4 E.L (fun q=>q < w1.heap.size) (.slice (some ⟨w3.heap.size,0,none⟩) 1 1) [Tr.mk 30 0 0 [] x.1.t x.2 []]:=by rw [<-xh];exact ah.lI (ah.none_ w3 E.L (fun q=>q < w1.heap.size)) (by have:=gZ.L;omega) (fun q hq=>Nat.lt_of_lt_of_le (Rc q hq) (by omega))
    refine aY (v:=(.slice (some ⟨w3.heap.size,0,none⟩) 1 1)) (w':=w4) (by rw [<-xh];unfold execOp;go_simp) (And.intro fU ?_)
    simp only [Act.put,gA,gB,gC,gD,gE,gF]
    refine aQ 8 fU ?_
    refine qO 9 ?_
    obtain ⟨w5,uw⟩:=aS (w4.alloc (.cells #[.int .i64 0,.int .i64 0,.int .i64 0,.string ⟨#[]⟩,.string ⟨#[]⟩,.int .i64 0,.slice none 0 0] 24))
    have jF:=dJ uw (RS.alloc jb _)
    have iw:=bK uw (Gr.alloc hG4 _)
    have hs5:w4.heap.size+1<=w5.heap.size:=by rw [<-uw];simp
    have gU:=aP uw (ag.alloc iq _)
    have aT:=aP uw (ag.alloc aK _)
    have hS5:=bK uw (Gr.alloc fU _)
    have aR:ag w5 w4.heap.size 24 Z7:=by rw [<-uw];exact ag.new _ _ _
    have xV:ah w5 E.L (fun q=>(fun q=>q < w1.heap.size) q\/q=w4.heap.size) (.slice (some ⟨w3.heap.size,0,none⟩) 1 1) [Tr.mk 30 0 0 [] x.1.t x.2 []]:=by rw [<-uw];exact (ah.or FE (Nat.le_refl _)).alloc _
    refine aY (v:=(.pointer (some ⟨w4.heap.size,0,none⟩))) (w':=w5) (by rw [<-uw];unfold execOp;go_simp) (And.intro hS5 ?_)
    simp only [Act.put,gA,gB,gC,gD,gE,gF]
    refine qO 10 ?_
    have FH:(fun q=>(fun q=>q < w1.heap.size) q\/q=w4.heap.size) w4.heap.size:=.inr rfl
    obtain ⟨w6,Au⟩:=aS (fA w5 w4.heap.size 0 (.int .i64 33) (.int .i64 0) (.int .i64 0) (.string ⟨#[]⟩) (.string ⟨#[]⟩) (.int .i64 (hdp s.tl)) (.slice (some ⟨w3.heap.size,0,none⟩) 1 1))
    have mG:Gr (fun q=>q=w4.heap.size) w5 w6:=by rw [<-Au];exact fQ (Gr.refl _) (.inr rfl)
    have bE:ag w6 w4.heap.size 24 (N7 33 0 0 ⟨#[]⟩ ⟨#[]⟩ (hdp s.tl) (.slice (some ⟨w3.heap.size,0,none⟩) 1 1)):=by rw [<-Au];exact ag.fA aR (.int .i64 33) (.int .i64 0) (.int .i64 0) (.string ⟨#[]⟩) (.string ⟨#[]⟩) (.int .i64 (hdp s.tl)) (.slice (some ⟨w3.heap.size,0,none⟩) 1 1)
    have Df:=bE.lt
    have lu:RS E w6 (aj [40] s.tl):=RS.gr jF mG (by show ¬E.b=w4.heap.size;omega) (by show ¬E.g=w4.heap.size;omega)
    have iX:Gr (·=E.b) w w6:=Gr.wide iw mG (fun q hq e=>by first|omega|(exfalso;omega))
    have gI:ag w6 w.heap.size 53 (T4 x.1.k (bs x.1.t) x.1.n x.2):=ag.gr gU mG (by show ¬w.heap.size=w4.heap.size;omega)
    have bn:ag w6 (w.heap.size+1) 24 Z7:=ag.gr aT mG (by show ¬w.heap.size+1=w4.heap.size;omega)
    have xW:ah w6 E.L (fun q=>(fun q=>q < w1.heap.size) q\/q=w4.heap.size) (.slice (some ⟨w3.heap.size,0,none⟩) 1 1) [Tr.mk 30 0 0 [] x.1.t x.2 []]:=ah.gr xV mG (fun q _ h3 _ h2=>by have e2:q=w4.heap.size:=h2;first|omega|exact h3 (e2▸FH))
    have ow:Gr (fun q=>q=E.b) w1 w6:=Gr.wide hS5 mG (fun q hq e=>by have e2:q=w4.heap.size:=e;first|(right;exact e2)|(exfalso;omega)|omega)
    refine iD _ _ _ _ _ _ _ w4.heap.size 0 (33) (0) (0) ([]) ([]) ((hdp s.tl)) (1) (1) ((some ⟨w3.heap.size,0,none⟩)) rfl rfl (ag.sw aR) (fun q=>aR.frozen q) ?_
    show Gr (fun q=>q=E.b) w1 (fA w5 w4.heap.size 0 (.int .i64 33) (.int .i64 0) (.int .i64 0) (.string ⟨#[]⟩) (.string ⟨#[]⟩) (.int .i64 (hdp s.tl)) (.slice (some ⟨w3.heap.size,0,none⟩) 1 1))/\wpAnyH _ _ _ _ _ _ _ _ (fA w5 w4.heap.size 0 (.int .i64 33) (.int .i64 0) (.int .i64 0) (.string ⟨#[]⟩) (.string ⟨#[]⟩) (.int .i64 (hdp s.tl)) (.slice (some ⟨w3.heap.size,0,none⟩) 1 1))
    rw [Au]
    refine And.intro ow ?_
    simp only [Act.put,gA,gB,gC,gD,gE,gF]
    refine eZ ?_
    refine PQ.mk (fun i=>match i with|0=>.pointer (some ⟨E.b,0,none⟩)|1=>.int .i64 (hdp s.tl)|2=>.pointer (some ⟨w.heap.size,1,none⟩)|3=>.string (bs x.1.t)|4=>.pointer (some ⟨w.heap.size,3,none⟩)|5=>.int .i64 x.2|6=>.agg #[.int .i64 30,.int .i64 0,.int .i64 0,.string ⟨#[]⟩,.string (bs x.1.t),.int .i64 x.2,.slice none 0 0]|7=>.slice (some ⟨w3.heap.size,0,none⟩) 1 1|8=>.agg #[.int .i64 33,.int .i64 0,.int .i64 0,.string ⟨#[]⟩,.string ⟨#[]⟩,.int .i64 (hdp s.tl),.slice (some ⟨w3.heap.size,0,none⟩) 1 1]|9=>.pointer (some ⟨w4.heap.size,0,none⟩)|10=>undef|_=>undef) (by kernel_rfl) ?_
    exact ⟨_,_,rfl,lu,iX,gI,bn,bE,xW,by omega,by omega⟩
   ·obtain ⟨w4,xh⟩:=aS (w3.alloc (.cells #[.int .i64 0,.int .i64 0,.int .i64 0,.string ⟨#[]⟩,.string ⟨#[]⟩,.int .i64 0,.slice none 0 0] 24))
    have jb:=dJ xh (RS.alloc gZ _)
    have hG4:=bK xh (Gr.alloc hG3 _)
    have hs4:w3.heap.size+1<=w4.heap.size:=by rw [<-xh];simp
    have iq:=aP xh (ag.alloc jh _)
    have aK:=aP xh (ag.alloc aF _)
    have fU:=bK xh (Gr.alloc IM _)
    have aW:ag w4 w3.heap.size 24 Z7:=by rw [<-xh];exact ag.new _ _ _
    have Fu:∀q,(fun q=>(fun q=>q < w1.heap.size) q\/q=w3.heap.size) q->q < w4.heap.size:=fun q hq=>hq.elim (fun e=>Nat.lt_of_lt_of_le (Rc q e) (by omega)) (fun e=>by omega)
    refine aY (v:=(.pointer (some ⟨w3.heap.size,0,none⟩))) (w':=w4) (by rw [<-xh];unfold execOp;go_simp) (And.intro fU ?_)
    simp only [Act.put,gA,gB,gC,gD,gE,gF]
    refine qO 7 ?_
    obtain ⟨w5,uw⟩:=aS (w4.alloc (.cells #[.int .i64 30,.int .i64 0,.int .i64 0,.string ⟨#[]⟩,.string (bs x.1.t),.int .i64 x.2,.slice none 0 0] 24))
    have jF:=dJ uw (RS.alloc jb _)
    have iw:=bK uw (Gr.alloc hG4 _)
    have gU:=aP uw (ag.alloc iq _)
    have aT:=aP uw (ag.alloc aK _)
    have aR:=aP uw (ag.alloc aW _)
    have hS5:=bK uw (Gr.alloc fU _)
    have xV:ah w5 E.L (fun q=>(fun q=>q < w1.heap.size) q\/q=w3.heap.size) (.slice (some ⟨w4.heap.size,0,none⟩) 1 1) [Tr.mk 30 0 0 [] x.1.t x.2 []]:=by rw [<-uw];exact ah.lI (ah.none_ w4 E.L (fun q=>(fun q=>q < w1.heap.size) q\/q=w3.heap.size)) (by have:=jb.L;omega) (fun q hq=>Nat.lt_of_lt_of_le (Fu q hq) (by omega))
    refine aY (v:=(.slice (some ⟨w4.heap.size,0,none⟩) 1 1)) (w':=w5) (by rw [<-uw];unfold execOp;go_simp) (And.intro hS5 ?_)
    simp only [Act.put,gA,gB,gC,gD,gE,gF]
    refine aQ 8 hS5 ?_
    refine qO 10 ?_
    have FH:(fun q=>(fun q=>q < w1.heap.size) q\/q=w3.heap.size) w3.heap.size:=.inr rfl
    obtain ⟨w6,Au⟩:=aS (fA w5 w3.heap.size 0 (.int .i64 33) (.int .i64 0) (.int .i64 0) (.string ⟨#[]⟩) (.string ⟨#[]⟩) (.int .i64 (hdp s.tl)) (.slice (some ⟨w4.heap.size,0,none⟩) 1 1))
    have mG:Gr (fun q=>q=w3.heap.size) w5 w6:=by rw [<-Au];exact fQ (Gr.refl _) (.inr rfl)
    have bE:ag w6 w3.heap.size 24 (N7 33 0 0 ⟨#[]⟩ ⟨#[]⟩ (hdp s.tl) (.slice (some ⟨w4.heap.size,0,none⟩) 1 1)):=by rw [<-Au];exact ag.fA aR (.int .i64 33) (.int .i64 0) (.int .i64 0) (.string ⟨#[]⟩) (.string ⟨#[]⟩) (.int .i64 (hdp s.tl)) (.slice (some ⟨w4.heap.size,0,none⟩) 1 1)
    have Df:=bE.lt
    have lu:RS E w6 (aj [40] s.tl):=RS.gr jF mG (by show ¬E.b=w3.heap.size;omega) (by show ¬E.g=w3.heap.size;omega)
    have iX:Gr (·=E.b) w w6:=Gr.wide iw mG (fun q hq e=>by first|omega|(exfalso;omega))
    have gI:ag w6 w.heap.size 53 (T4 x.1.k (bs x.1.t) x.1.n x.2):=ag.gr gU mG (by show ¬w.heap.size=w3.heap.size;omega)
    have bn:ag w6 (w.heap.size+1) 24 Z7:=ag.gr aT mG (by show ¬w.heap.size+1=w3.heap.size;omega)
    have xW:ah w6 E.L (fun q=>(fun q=>q < w1.heap.size) q\/q=w3.heap.size) (.slice (some ⟨w4.heap.size,0,none⟩) 1 1) [Tr.mk 30 0 0 [] x.1.t x.2 []]:=ah.gr xV mG (fun q _ h3 _ h2=>by have e2:q=w3.heap.size:=h2;first|omega|exact h3 (e2▸FH))
    have ow:Gr (fun q=>q=E.b) w1 w6:=Gr.wide hS5 mG (fun q hq e=>by have e2:q=w3.heap.size:=e;first|(right;exact e2)|(exfalso;omega)|omega)
    refine iD _ _ _ _ _ _ _ w3.heap.size 0 (33) (0) (0) ([]) ([]) ((hdp s.tl)) (1) (1) ((some ⟨w4.heap.size,0,none⟩)) rfl rfl (ag.sw aR) (fun q=>aR.frozen q) ?_
    show Gr (fun q=>q=E.b) w1 (fA w5 w3.heap.size 0 (.int .i64 33) (.int .i64 0) (.int .i64 0) (.string ⟨#[]⟩) (.string ⟨#[]⟩) (.int .i64 (hdp s.tl)) (.slice (some ⟨w4.heap.size,0,none⟩) 1 1))/\wpAnyH _ _ _ _ _ _ _ _ (fA w5 w3.heap.size 0 (.int .i64 33) (.int .i64 0) (.int .i64 0) (.string ⟨#[]⟩) (.string ⟨#[]⟩) (.int .i64 (hdp s.tl)) (.slice (some ⟨w4.heap.size,0,none⟩) 1 1))
    rw [Au]
    refine And.intro ow ?_
    simp only [Act.put,gA,gB,gC,gD,gE,gF]
    refine eZ ?_
    refine PQ.mk (fun i=>match i with|0=>.pointer (some ⟨E.b,0,none⟩)|1=>.int .i64 (hdp s.tl)|2=>.pointer (some ⟨w.heap.size,1,none⟩)|3=>.string (bs x.1.t)|4=>.pointer (some ⟨w.heap.size,3,none⟩)|5=>.int .i64 x.2|6=>.agg #[.int .i64 30,.int .i64 0,.int .i64 0,.string ⟨#[]⟩,.string (bs x.1.t),.int .i64 x.2,.slice none 0 0]|7=>.slice (some ⟨w4.heap.size,0,none⟩) 1 1|8=>.agg #[.int .i64 33,.int .i64 0,.int .i64 0,.string ⟨#[]⟩,.string ⟨#[]⟩,.int .i64 (hdp s.tl),.slice (some ⟨w4.heap.size,0,none⟩) 1 1]|9=>.pointer (some ⟨w3.heap.size,0,none⟩)|10=>undef|_=>undef) (by kernel_rfl) ?_
    exact ⟨_,_,rfl,lu,iX,gI,bn,bE,xW,by omega,by omega⟩
  ·obtain ⟨w3,Ec⟩:=aS (w2.alloc (.cells #[.int .i64 30,.int .i64 0,.int .i64 0,.string ⟨#[]⟩,.string (bs x.1.t),.int .i64 x.2,.slice none 0 0] 24))
   have gZ:=dJ Ec (RS.alloc hR2 _)
   have hG3:=bK Ec (Gr.alloc hG2 _)
   have hs3:w2.heap.size+1<=w3.heap.size:=by rw [<-Ec];simp
   have zP:=gZ.lt
   have Du:=gZ.iy
   have jh:=aP Ec (ag.alloc nT _)
   have aF:=aP Ec (ag.alloc ax _)
   have uX:=aF.lt
   have IM:=bK Ec (Gr.alloc hS2 _)
   have aak:ah w3 E.L (fun q=>q < w1.heap.size) (.slice (some ⟨w2.heap.size,0,none⟩) 1 1) [Tr.mk 30 0 0 [] x.1.t x.2 []]:=by rw [<-Ec];exact ah.lI (ah.none_ w2 E.L (fun q=>q < w1.heap.size)) (by have:=hR2.L;omega) (fun q hq=>Nat.lt_of_lt_of_le (Rc q hq) (by omega))
   refine aY (v:=(.slice (some ⟨w2.heap.size,0,none⟩) 1 1)) (w':=w3) (by rw [<-Ec];unfold execOp;go_simp) (And.intro IM ?_)
   simp only [Act.put,gA,gB,gC,gD,gE,gF]
   refine jE (i:=1) (j:=9) (by kernel_rfl) rfl rfl rfl rfl ?_ ?_
   ·refine fP (args:=#[.pointer (some ⟨E.b,0,none⟩),.string ⟨#[40]⟩]) (f:=25) (by unfold execOp;go_simp) ((aA E _ s.tl gZ [40] ⟨#[40]⟩ rfl).mono ?_)
    rintro e w4 ⟨rfl,jb,hg4⟩
    have hG4:Gr (·=E.b) w w4:=Gr.trans hG3 (Gr.mono hg4 (fun _ _ e=>e))
    have fU:Gr (fun q=>q=E.b) w1 w4:=Gr.trans IM (Gr.mono hg4 (fun _ _ e=>by first|exact e|exact .inl e))
    have hs4:=hg4.size;(try simp at hs4)
    have LM:=jb.lt
    have JK:=jb.iy
    have iq:=aD jh hg4
    have aK:=aD aF hg4
    have Fb:=aK.lt
    have FE:=dU aak hg4
    refine And.intro fU ?_
    simp only [Act.put,gA,gB,gC,gD,gE,gF]
    refine aQ 8 fU ?_
    refine qO 9 ?_
    obtain ⟨w5,uw⟩:=aS (w4.alloc (.cells #[.int .i64 0,.int .i64 0,.int .i64 0,.string ⟨#[]⟩,.string ⟨#[]⟩,.int .i64 0,.slice none 0 0] 24))
    have jF:=dJ uw (RS.alloc jb _)
    have iw:=bK uw (Gr.alloc hG4 _)
    have hs5:w4.heap.size+1<=w5.heap.size:=by rw [<-uw];simp
    have gU:=aP uw (ag.alloc iq _)
    have aT:=aP uw (ag.alloc aK _)
    have hS5:=bK uw (Gr.alloc fU _)
    have aR:ag w5 w4.heap.size 24 Z7:=by rw [<-uw];exact ag.new _ _ _
    have xV:ah w5 E.L (fun q=>(fun q=>q < w1.heap.size) q\/q=w4.heap.size) (.slice (some ⟨w2.heap.size,0,none⟩) 1 1) [Tr.mk 30 0 0 [] x.1.t x.2 []]:=by rw [<-uw];exact (ah.or FE (Nat.le_refl _)).alloc _
    refine aY (v:=(.pointer (some ⟨w4.heap.size,0,none⟩))) (w':=w5) (by rw [<-uw];unfold execOp;go_simp) (And.intro hS5 ?_)
    simp only [Act.put,gA,gB,gC,gD,gE,gF]
    refine qO 10 ?_
    have FH:(fun q=>(fun q=>q < w1.heap.size) q\/q=w4.heap.size) w4.heap.size:=.inr rfl
    obtain ⟨w6,Au⟩:=aS (fA w5 w4.heap.size 0 (.int .i64 33) (.int .i64 0) (.int .i64 0) (.string ⟨#[]⟩) (.string ⟨#[]⟩) (.int .i64 (hdp s.tl)) (.slice (some ⟨w2.heap.size,0,none⟩) 1 1))
    have mG:Gr (fun q=>q=w4.heap.size) w5 w6:=by rw [<-Au];exact fQ (Gr.refl _) (.inr rfl)
    have bE:ag w6 w4.heap.size 24 (N7 33 0 0 ⟨#[]⟩ ⟨#[]⟩ (hdp s.tl) (.slice (some ⟨w2.heap.size,0,none⟩) 1 1)):=by rw [<-Au];exact ag.fA aR (.int .i64 33) (.int .i64 0) (.int .i64 0) (.string ⟨#[]⟩) (.string ⟨#[]⟩) (.int .i64 (hdp s.tl)) (.slice (some ⟨w2.heap.size,0,none⟩) 1 1)
    have Df:=bE.lt
    have lu:RS E w6 (aj [40] s.tl):=RS.gr jF mG (by show ¬E.b=w4.heap.size;omega) (by show ¬E.g=w4.heap.size;omega)
    have iX:Gr (·=E.b) w w6:=Gr.wide iw mG (fun q hq e=>by first|omega|(exfalso;omega))
    have gI:ag w6 w.heap.size 53 (T4 x.1.k (bs x.1.t) x.1.n x.2):=ag.gr gU mG (by show ¬w.heap.size=w4.heap.size;omega)
    have bn:ag w6 (w.heap.size+1) 24 Z7:=ag.gr aT mG (by show ¬w.heap.size+1=w4.heap.size;omega)
    have xW:ah w6 E.L (fun q=>(fun q=>q < w1.heap.size) q\/q=w4.heap.size) (.slice (some ⟨w2.heap.size,0,none⟩) 1 1) [Tr.mk 30 0 0 [] x.1.t x.2 []]:=ah.gr xV mG (fun q _ h3 _ h2=>by have e2:q=w4.heap.size:=h2;first|omega|exact h3 (e2▸FH))
    have ow:Gr (fun q=>q=E.b) w1 w6:=Gr.wide hS5 mG (fun q hq e=>by have e2:q=w4.heap.size:=e;first|(right;exact e2)|(exfalso;omega)|omega)
    refine iD _ _ _ _ _ _ _ w4.heap.size 0 (33) (0) (0) ([]) ([]) ((hdp s.tl)) (1) (1) ((some ⟨w2.heap.size,0,none⟩)) rfl rfl (ag.sw aR) (fun q=>aR.frozen q) ?_
    show Gr (fun q=>q=E.b) w1 (fA w5 w4.heap.size 0 (.int .i64 33) (.int .i64 0) (.int .i64 0) (.string ⟨#[]⟩) (.string ⟨#[]⟩) (.int .i64 (hdp s.tl)) (.slice (some ⟨w2.heap.size,0,none⟩) 1 1))/\wpAnyH _ _ _ _ _ _ _ _ (fA w5 w4.heap.size 0 (.int .i64 33) (.int .i64 0) (.int .i64 0) (.string ⟨#[]⟩) (.string ⟨#[]⟩) (.int .i64 (hdp s.tl)) (.slice (some ⟨w2.heap.size,0,none⟩) 1 1))
    rw [Au]
    refine And.intro ow ?_
    simp only [Act.put,gA,gB,gC,gD,gE,gF]
    refine eZ ?_
    refine PQ.mk (fun i=>match i with|0=>.pointer (some ⟨E.b,0,none⟩)|1=>.int .i64 (hdp s.tl)|2=>.pointer (some ⟨w.heap.size,1,none⟩)|3=>.string (bs x.1.t)|4=>.pointer (some ⟨w.heap.size,3,none⟩)|5=>.int .i64 x.2|6=>.agg #[.int .i64 30,.int .i64 0,.int .i64 0,.string ⟨#[]⟩,.string (bs x.1.t),.int .i64 x.2,.slice none 0 0]|7=>.slice (some ⟨w2.heap.size,0,none⟩) 1 1|8=>.agg #[.int .i64 33,.int .i64 0,.int .i64 0,.string ⟨#[]⟩,.string ⟨#[]⟩,.int .i64 (hdp s.tl),.slice (some ⟨w2.heap.size,0,none⟩) 1 1]|9=>.pointer (some ⟨w4.heap.size,0,none⟩)|10=>undef|_=>undef) (by kernel_rfl) ?_
    exact ⟨_,_,rfl,lu,iX,gI,bn,bE,xW,by omega,by omega⟩
   ·obtain ⟨w4,xh⟩:=aS (w3.alloc (.cells #[.int .i64 0,.int .i64 0,.int .i64 0,.string ⟨#[]⟩,.string ⟨#[]⟩,.int .i64 0,.slice none 0 0] 24))
    have jb:=dJ xh (RS.alloc gZ _)
    have hG4:=bK xh (Gr.alloc hG3 _)
    have hs4:w3.heap.size+1<=w4.heap.size:=by rw [<-xh];simp
    have iq:=aP xh (ag.alloc jh _)
    have aK:=aP xh (ag.alloc aF _)
    have fU:=bK xh (Gr.alloc IM _)
    have aW:ag w4 w3.heap.size 24 Z7:=by rw [<-xh];exact ag.new _ _ _
    have FE:ah w4 E.L (fun q=>(fun q=>q < w1.heap.size) q\/q=w3.heap.size) (.slice (some ⟨w2.heap.size,0,none⟩) 1 1) [Tr.mk 30 0 0 [] x.1.t x.2 []]:=by rw [<-xh];exact (ah.or aak (Nat.le_refl _)).alloc _
    refine aY (v:=(.pointer (some ⟨w3.heap.size,0,none⟩))) (w':=w4) (by rw [<-xh];unfold execOp;go_simp) (And.intro fU ?_)
    simp only [Act.put,gA,gB,gC,gD,gE,gF]
    refine qO 1 ?_
    refine fP (args:=#[.pointer (some ⟨E.b,0,none⟩),.string ⟨#[40]⟩]) (f:=25) (by unfold execOp;go_simp) ((aA E _ s.tl jb [40] ⟨#[40]⟩ rfl).mono ?_)
    rintro e w5 ⟨rfl,jF,hg5⟩
    have iw:Gr (·=E.b) w w5:=Gr.trans hG4 (Gr.mono hg5 (fun _ _ e=>e))
    have hS5:Gr (fun q=>q=E.b) w1 w5:=Gr.trans fU (Gr.mono hg5 (fun _ _ e=>by first|exact e|exact .inl e))
    have gU:=aD iq hg5
    have aT:=aD aK hg5
    have aR:=aD aW hg5
    have xV:=dU FE hg5
    refine And.intro hS5 ?_
    simp only [Act.put,gA,gB,gC,gD,gE,gF]
    refine aQ 8 hS5 ?_
    refine qO 10 ?_
    have FH:(fun q=>(fun q=>q < w1.heap.size) q\/q=w3.heap.size) w3.heap.size:=.inr rfl
    obtain ⟨w6,Au⟩:=aS (fA w5 w3.heap.size 0 (.int .i64 33) (.int .i64 0) (.int .i64 0) (.string ⟨#[]⟩) (.string ⟨#[]⟩) (.int .i64 (hdp s.tl)) (.slice (some ⟨w2.heap.size,0,none⟩) 1 1))
    have mG:Gr (fun q=>q=w3.heap.size) w5 w6:=by rw [<-Au];exact fQ (Gr.refl _) (.inr rfl)
    have bE:ag w6 w3.heap.size 24 (N7 33 0 0 ⟨#[]⟩ ⟨#[]⟩ (hdp s.tl) (.slice (some ⟨w2.heap.size,0,none⟩) 1 1)):=by rw [<-Au];exact ag.fA aR (.int .i64 33) (.int .i64 0) (.int .i64 0) (.string ⟨#[]⟩) (.string ⟨#[]⟩) (.int .i64 (hdp s.tl)) (.slice (some ⟨w2.heap.size,0,none⟩) 1 1)
    have Df:=bE.lt
    have lu:RS E w6 (aj [40] s.tl):=RS.gr jF mG (by show ¬E.b=w3.heap.size;omega) (by show ¬E.g=w3.heap.size;omega)
    have iX:Gr (·=E.b) w w6:=Gr.wide iw mG (fun q hq e=>by first|omega|(exfalso;omega))
    have gI:ag w6 w.heap.size 53 (T4 x.1.k (bs x.1.t) x.1.n x.2):=ag.gr gU mG (by show ¬w.heap.size=w3.heap.size;omega)
    have bn:ag w6 (w.heap.size+1) 24 Z7:=ag.gr aT mG (by show ¬w.heap.size+1=w3.heap.size;omega)
    have xW:ah w6 E.L (fun q=>(fun q=>q < w1.heap.size) q\/q=w3.heap.size) (.slice (some ⟨w2.heap.size,0,none⟩) 1 1) [Tr.mk 30 0 0 [] x.1.t x.2 []]:=ah.gr xV mG (fun q _ h3 _ h2=>by have e2:q=w3.heap.size:=h2;first|omega|exact h3 (e2▸FH))
    have ow:Gr (fun q=>q=E.b) w1 w6:=Gr.wide hS5 mG (fun q hq e=>by have e2:q=w3.heap.size:=e;first|(right;exact e2)|(exfalso;omega)|omega)
    refine iD _ _ _ _ _ _ _ w3.heap.size 0 (33) (0) (0) ([]) ([]) ((hdp s.tl)) (1) (1) ((some ⟨w2.heap.size,0,none⟩)) rfl rfl (ag.sw aR) (fun q=>aR.frozen q) ?_
    show Gr (fun q=>q=E.b) w1 (fA w5 w3.heap.size 0 (.int .i64 33) (.int .i64 0) (.int .i64 0) (.string ⟨#[]⟩) (.string ⟨#[]⟩) (.int .i64 (hdp s.tl)) (.slice (some ⟨w2.heap.size,0,none⟩) 1 1))/\wpAnyH _ _ _ _ _ _ _ _ (fA w5 w3.heap.size 0 (.int .i64 33) (.int .i64 0) (.int .i64 0) (.string ⟨#[]⟩) (.string ⟨#[]⟩) (.int .i64 (hdp s.tl)) (.slice (some ⟨w2.heap.size,0,none⟩) 1 1))
    rw [Au]
    refine And.intro ow ?_
    simp only [Act.put,gA,gB,gC,gD,gE,gF]
    refine eZ ?_
    refine PQ.mk (fun i=>match i with|0=>.pointer (some ⟨E.b,0,none⟩)|1=>.int .i64 (hdp s.tl)|2=>.pointer (some ⟨w.heap.size,1,none⟩)|3=>.string (bs x.1.t)|4=>.pointer (some ⟨w.heap.size,3,none⟩)|5=>.int .i64 x.2|6=>.agg #[.int .i64 30,.int .i64 0,.int .i64 0,.string ⟨#[]⟩,.string (bs x.1.t),.int .i64 x.2,.slice none 0 0]|7=>.slice (some ⟨w2.heap.size,0,none⟩) 1 1|8=>.agg #[.int .i64 33,.int .i64 0,.int .i64 0,.string ⟨#[]⟩,.string ⟨#[]⟩,.int .i64 (hdp s.tl),.slice (some ⟨w2.heap.size,0,none⟩) 1 1]|9=>.pointer (some ⟨w3.heap.size,0,none⟩)|10=>undef|_=>undef) (by kernel_rfl) ?_
    exact ⟨_,_,rfl,lu,iX,gI,bn,bE,xW,by omega,by omega⟩
  ·obtain ⟨w3,Ec⟩:=aS (w2.alloc (.cells #[.int .i64 0,.int .i64 0,.int .i64 0,.string ⟨#[]⟩,.string ⟨#[]⟩,.int .i64 0,.slice none 0 0] 24))
   have gZ:=dJ Ec (RS.alloc hR2 _)
   have hG3:=bK Ec (Gr.alloc hG2 _)
   have hs3:w2.heap.size+1<=w3.heap.size:=by rw [<-Ec];simp
   have jh:=aP Ec (ag.alloc nT _)
   have aF:=aP Ec (ag.alloc ax _)
   have IM:=bK Ec (Gr.alloc hS2 _)
   have aM:ag w3 w2.heap.size 24 Z7:=by rw [<-Ec];exact ag.new _ _ _
   have DC:∀q,(fun q=>(fun q=>q < w1.heap.size) q\/q=w2.heap.size) q->q < w3.heap.size:=fun q hq=>hq.elim (fun e=>Nat.lt_of_lt_of_le (Rc q e) (by omega)) (fun e=>by omega)
   refine aY (v:=(.pointer (some ⟨w2.heap.size,0,none⟩))) (w':=w3) (by rw [<-Ec];unfold execOp;go_simp) (And.intro IM ?_)
   simp only [Act.put,gA,gB,gC,gD,gE,gF]
   refine jE (i:=1) (j:=7) (by kernel_rfl) rfl rfl rfl rfl ?_ ?_
   ·refine fP (args:=#[.pointer (some ⟨E.b,0,none⟩),.string ⟨#[40]⟩]) (f:=25) (by unfold execOp;go_simp) ((aA E _ s.tl gZ [40] ⟨#[40]⟩ rfl).mono ?_)
    rintro e w4 ⟨rfl,jb,hg4⟩
    have hG4:Gr (·=E.b) w w4:=Gr.trans hG3 (Gr.mono hg4 (fun _ _ e=>e))
    have fU:Gr (fun q=>q=E.b) w1 w4:=Gr.trans IM (Gr.mono hg4 (fun _ _ e=>by first|exact e|exact .inl e))
    have hs4:=hg4.size;(try simp at hs4)
    have iq:=aD jh hg4
    have aK:=aD aF hg4
    have aW:=aD aM hg4
    refine And.intro fU ?_
    simp only [Act.put,gA,gB,gC,gD,gE,gF]
    refine qO 7 ?_
    obtain ⟨w5,uw⟩:=aS (w4.alloc (.cells #[.int .i64 30,.int .i64 0,.int .i64 0,.string ⟨#[]⟩,.string (bs x.1.t),.int .i64 x.2,.slice none 0 0] 24))
    have jF:=dJ uw (RS.alloc jb _)
    have iw:=bK uw (Gr.alloc hG4 _)
    have gU:=aP uw (ag.alloc iq _)
    have aT:=aP uw (ag.alloc aK _)
    have aR:=aP uw (ag.alloc aW _)
    have hS5:=bK uw (Gr.alloc fU _)
    have xV:ah w5 E.L (fun q=>(fun q=>q < w1.heap.size) q\/q=w2.heap.size) (.slice (some ⟨w4.heap.size,0,none⟩) 1 1) [Tr.mk 30 0 0 [] x.1.t x.2 []]:=by rw [<-uw];exact ah.lI (ah.none_ w4 E.L (fun q=>(fun q=>q < w1.heap.size) q\/q=w2.heap.size)) (by have:=jb.L;omega) (fun q hq=>Nat.lt_of_lt_of_le (DC q hq) (by omega))
    refine aY (v:=(.slice (some ⟨w4.heap.size,0,none⟩) 1 1)) (w':=w5) (by rw [<-uw];unfold execOp;go_simp) (And.intro hS5 ?_)
    simp only [Act.put,gA,gB,gC,gD,gE,gF]
    refine aQ 8 hS5 ?_
    refine qO 10 ?_
    have FH:(fun q=>(fun q=>q < w1.heap.size) q\/q=w2.heap.size) w2.heap.size:=.inr rfl
    obtain ⟨w6,Au⟩:=aS (fA w5 w2.heap.size 0 (.int .i64 33) (.int .i64 0) (.int .i64 0) (.string ⟨#[]⟩) (.string ⟨#[]⟩) (.int .i64 (hdp s.tl)) (.slice (some ⟨w4.heap.size,0,none⟩) 1 1))
    have mG:Gr (fun q=>q=w2.heap.size) w5 w6:=by rw [<-Au];exact fQ (Gr.refl _) (.inr rfl)
    have bE:ag w6 w2.heap.size 24 (N7 33 0 0 ⟨#[]⟩ ⟨#[]⟩ (hdp s.tl) (.slice (some ⟨w4.heap.size,0,none⟩) 1 1)):=by rw [<-Au];exact ag.fA aR (.int .i64 33) (.int .i64 0) (.int .i64 0) (.string ⟨#[]⟩) (.string ⟨#[]⟩) (.int .i64 (hdp s.tl)) (.slice (some ⟨w4.heap.size,0,none⟩) 1 1)
    have Df:=bE.lt
    have lu:RS E w6 (aj [40] s.tl):=RS.gr jF mG (by show ¬E.b=w2.heap.size;omega) (by show ¬E.g=w2.heap.size;omega)
    have iX:Gr (·=E.b) w w6:=Gr.wide iw mG (fun q hq e=>by first|omega|(exfalso;omega))
    have gI:ag w6 w.heap.size 53 (T4 x.1.k (bs x.1.t) x.1.n x.2):=ag.gr gU mG (by show ¬w.heap.size=w2.heap.size;omega)
    have bn:ag w6 (w.heap.size+1) 24 Z7:=ag.gr aT mG (by show ¬w.heap.size+1=w2.heap.size;omega)
    have xW:ah w6 E.L (fun q=>(fun q=>q < w1.heap.size) q\/q=w2.heap.size) (.slice (some ⟨w4.heap.size,0,none⟩) 1 1) [Tr.mk 30 0 0 [] x.1.t x.2 []]:=ah.gr xV mG (fun q _ h3 _ h2=>by have e2:q=w2.heap.size:=h2;first|omega|exact h3 (e2▸FH))
    have ow:Gr (fun q=>q=E.b) w1 w6:=Gr.wide hS5 mG (fun q hq e=>by have e2:q=w2.heap.size:=e;first|(right;exact e2)|(exfalso;omega)|omega)
    refine iD _ _ _ _ _ _ _ w2.heap.size 0 (33) (0) (0) ([]) ([]) ((hdp s.tl)) (1) (1) ((some ⟨w4.heap.size,0,none⟩)) rfl rfl (ag.sw aR) (fun q=>aR.frozen q) ?_
    show Gr (fun q=>q=E.b) w1 (fA w5 w2.heap.size 0 (.int .i64 33) (.int .i64 0) (.int .i64 0) (.string ⟨#[]⟩) (.string ⟨#[]⟩) (.int .i64 (hdp s.tl)) (.slice (some ⟨w4.heap.size,0,none⟩) 1 1))/\wpAnyH _ _ _ _ _ _ _ _ (fA w5 w2.heap.size 0 (.int .i64 33) (.int .i64 0) (.int .i64 0) (.string ⟨#[]⟩) (.string ⟨#[]⟩) (.int .i64 (hdp s.tl)) (.slice (some ⟨w4.heap.size,0,none⟩) 1 1))
    rw [Au]
    refine And.intro ow ?_
    simp only [Act.put,gA,gB,gC,gD,gE,gF]
    refine eZ ?_
    refine PQ.mk (fun i=>match i with|0=>.pointer (some ⟨E.b,0,none⟩)|1=>.int .i64 (hdp s.tl)|2=>.pointer (some ⟨w.heap.size,1,none⟩)|3=>.string (bs x.1.t)|4=>.pointer (some ⟨w.heap.size,3,none⟩)|5=>.int .i64 x.2|6=>.agg #[.int .i64 30,.int .i64 0,.int .i64 0,.string ⟨#[]⟩,.string (bs x.1.t),.int .i64 x.2,.slice none 0 0]|7=>.slice (some ⟨w4.heap.size,0,none⟩) 1 1|8=>.agg #[.int .i64 33,.int .i64 0,.int .i64 0,.string ⟨#[]⟩,.string ⟨#[]⟩,.int .i64 (hdp s.tl),.slice (some ⟨w4.heap.size,0,none⟩) 1 1]|9=>.pointer (some ⟨w2.heap.size,0,none⟩)|10=>undef|_=>undef) (by kernel_rfl) ?_
    exact ⟨_,_,rfl,lu,iX,gI,bn,bE,xW,by omega,by omega⟩
   ·obtain ⟨w4,xh⟩:=aS (w3.alloc (.cells #[.int .i64 30,.int .i64 0,.int .i64 0,.string ⟨#[]⟩,.string (bs x.1.t),.int .i64 x.2,.slice none 0 0] 24))
    have jb:=dJ xh (RS.alloc gZ _)
    have hG4:=bK xh (Gr.alloc hG3 _)
    have iq:=aP xh (ag.alloc jh _)
    have aK:=aP xh (ag.alloc aF _)
    have aW:=aP xh (ag.alloc aM _)
    have fU:=bK xh (Gr.alloc IM _)
    have FE:ah w4 E.L (fun q=>(fun q=>q < w1.heap.size) q\/q=w2.heap.size) (.slice (some ⟨w3.heap.size,0,none⟩) 1 1) [Tr.mk 30 0 0 [] x.1.t x.2 []]:=by rw [<-xh];exact ah.lI (ah.none_ w3 E.L (fun q=>(fun q=>q < w1.heap.size) q\/q=w2.heap.size)) (by have:=gZ.L;omega) (fun q hq=>Nat.lt_of_lt_of_le (DC q hq) (by omega))
    refine aY (v:=(.slice (some ⟨w3.heap.size,0,none⟩) 1 1)) (w':=w4) (by rw [<-xh];unfold execOp;go_simp) (And.intro fU ?_)
    simp only [Act.put,gA,gB,gC,gD,gE,gF]
    refine qO 1 ?_
    refine fP (args:=#[.pointer (some ⟨E.b,0,none⟩),.string ⟨#[40]⟩]) (f:=25) (by unfold execOp;go_simp) ((aA E _ s.tl jb [40] ⟨#[40]⟩ rfl).mono ?_)
    rintro e w5 ⟨rfl,jF,hg5⟩
    have iw:Gr (·=E.b) w w5:=Gr.trans hG4 (Gr.mono hg5 (fun _ _ e=>e))
    have hS5:Gr (fun q=>q=E.b) w1 w5:=Gr.trans fU (Gr.mono hg5 (fun _ _ e=>by first|exact e|exact .inl e))
    have gU:=aD iq hg5
    have aT:=aD aK hg5
    have aR:=aD aW hg5
    have xV:=dU FE hg5
    refine And.intro hS5 ?_
    simp only [Act.put,gA,gB,gC,gD,gE,gF]
    refine aQ 8 hS5 ?_
    refine qO 10 ?_
    have FH:(fun q=>(fun q=>q < w1.heap.size) q\/q=w2.heap.size) w2.heap.size:=.inr rfl
    obtain ⟨w6,Au⟩:=aS (fA w5 w2.heap.size 0 (.int .i64 33) (.int .i64 0) (.int .i64 0) (.string ⟨#[]⟩) (.string ⟨#[]⟩) (.int .i64 (hdp s.tl)) (.slice (some ⟨w3.heap.size,0,none⟩) 1 1))
    have mG:Gr (fun q=>q=w2.heap.size) w5 w6:=by rw [<-Au];exact fQ (Gr.refl _) (.inr rfl)
    have bE:ag w6 w2.heap.size 24 (N7 33 0 0 ⟨#[]⟩ ⟨#[]⟩ (hdp s.tl) (.slice (some ⟨w3.heap.size,0,none⟩) 1 1)):=by rw [<-Au];exact ag.fA aR (.int .i64 33) (.int .i64 0) (.int .i64 0) (.string ⟨#[]⟩) (.string ⟨#[]⟩) (.int .i64 (hdp s.tl)) (.slice (some ⟨w3.heap.size,0,none⟩) 1 1)
    have Df:=bE.lt
    have lu:RS E w6 (aj [40] s.tl):=RS.gr jF mG (by show ¬E.b=w2.heap.size;omega) (by show ¬E.g=w2.heap.size;omega)
    have iX:Gr (·=E.b) w w6:=Gr.wide iw mG (fun q hq e=>by first|omega|(exfalso;omega))
    have gI:ag w6 w.heap.size 53 (T4 x.1.k (bs x.1.t) x.1.n x.2):=ag.gr gU mG (by show ¬w.heap.size=w2.heap.size;omega)
    have bn:ag w6 (w.heap.size+1) 24 Z7:=ag.gr aT mG (by show ¬w.heap.size+1=w2.heap.size;omega)
    have xW:ah w6 E.L (fun q=>(fun q=>q < w1.heap.size) q\/q=w2.heap.size) (.slice (some ⟨w3.heap.size,0,none⟩) 1 1) [Tr.mk 30 0 0 [] x.1.t x.2 []]:=ah.gr xV mG (fun q _ h3 _ h2=>by have e2:q=w2.heap.size:=h2;first|omega|exact h3 (e2▸FH))
    have ow:Gr (fun q=>q=E.b) w1 w6:=Gr.wide hS5 mG (fun q hq e=>by have e2:q=w2.heap.size:=e;first|(right;exact e2)|(exfalso;omega)|omega)
    refine iD _ _ _ _ _ _ _ w2.heap.size 0 (33) (0) (0) ([]) ([]) ((hdp s.tl)) (1) (1) ((some ⟨w3.heap.size,0,none⟩)) rfl rfl (ag.sw aR) (fun q=>aR.frozen q) ?_
    show Gr (fun q=>q=E.b) w1 (fA w5 w2.heap.size 0 (.int .i64 33) (.int .i64 0) (.int .i64 0) (.string ⟨#[]⟩) (.string ⟨#[]⟩) (.int .i64 (hdp s.tl)) (.slice (some ⟨w3.heap.size,0,none⟩) 1 1))/\wpAnyH _ _ _ _ _ _ _ _ (fA w5 w2.heap.size 0 (.int .i64 33) (.int .i64 0) (.int .i64 0) (.string ⟨#[]⟩) (.string ⟨#[]⟩) (.int .i64 (hdp s.tl)) (.slice (some ⟨w3.heap.size,0,none⟩) 1 1))
    rw [Au]
    refine And.intro ow ?_
    simp only [Act.put,gA,gB,gC,gD,gE,gF]
    refine eZ ?_
    refine PQ.mk (fun i=>match i with|0=>.pointer (some ⟨E.b,0,none⟩)|1=>.int .i64 (hdp s.tl)|2=>.pointer (some ⟨w.heap.size,1,none⟩)|3=>.string (bs x.1.t)|4=>.pointer (some ⟨w.heap.size,3,none⟩)|5=>.int .i64 x.2|6=>.agg #[.int .i64 30,.int .i64 0,.int .i64 0,.string ⟨#[]⟩,.string (bs x.1.t),.int .i64 x.2,.slice none 0 0]|7=>.slice (some ⟨w3.heap.size,0,none⟩) 1 1|8=>.agg #[.int .i64 33,.int .i64 0,.int .i64 0,.string ⟨#[]⟩,.string ⟨#[]⟩,.int .i64 (hdp s.tl),.slice (some ⟨w3.heap.size,0,none⟩) 1 1]|9=>.pointer (some ⟨w2.heap.size,0,none⟩)|10=>undef|_=>undef) (by kernel_rfl) ?_
    exact ⟨_,_,rfl,lu,iX,gI,bn,bE,xW,by omega,by omega⟩
 case hk=>
 rintro vals w50 ⟨z,r,Z8,Tz,ahj,FI,Wh,O3,Cv,hzq,hsw⟩
 dsimp only [bG]
 simp only [Act.put,gA,gB,gC,gD,gE,gF]
 rw [Z8]
 clear Z8
 have ahk:=O3.lt
 have ahl:=FI.lt
 have ahm:=Wh.lt
 have ajm:=Tz.lt
 have ajn:=Tz.iy
 have Re:∀q,(fun q=>q < w1.heap.size\/q=z) q->q < w50.heap.size:=fun q hq=>hq.elim (fun e=>by omega) (fun e=>by omega)
 have dO:(fun q=>q < w1.heap.size\/q=z) z:=.inr rfl
 have cB:(fun q=>q < w1.heap.size\/q=z) (w.heap.size+1):=.inl (by omega)
 have ve:(fun q=>q < w1.heap.size\/q=z) w.heap.size:=.inl (by omega)
 have fT:z≠E.b:=by omega
 have kG:z≠E.g:=by omega
 have Rf:∀q,(Value.slice (some ⟨r,0,none⟩) 1 1).ownBlock=some q->w.heap.size<=q:=fun q e=>by
  have h1:=(Cv.own e).2.2
  omega
 by_cases ht:x.1.t=[109,97,107,101]
 case neg=>
  have cq:((bs x.1.t).toList == [109,97,107,101])=false:=by rw [iC];simpa using ht
  have cn:((bs x.1.t).toList != [109,97,107,101])=true:=by rw [iC];simpa using ht
  rw [if_neg ht] at heq
  have HQ:=af heq
  clear ht heq
  have Tq:=af (fun (W:World) (hW:RS E W (aj [40] s.tl)) (hb:ag W z 24 (N7 33 0 0 ⟨#[]⟩ ⟨#[]⟩ (hdp s.tl) (.slice (some ⟨r,0,none⟩) 1 1))) (hp:ah W E.L (fun q=>q < w1.heap.size\/q=z) (.slice (some ⟨r,0,none⟩) 1 1) [Tr.mk 30 0 0 [] x.1.t x.2 []]) (EG:∀q,(fun q=>q < w1.heap.size\/q=z) q->q < W.heap.size)=>show Calls Tryz.prog 132 #[.pointer (some ⟨E.b,0,none⟩),.pointer (some ⟨z,0,none⟩),.string ⟨#[41]⟩] W (Bb E W z (fun q=>q < w1.heap.size\/q=z) (.slice (some ⟨r,0,none⟩) 1 1) (1+n+2) tr s') from Hn.several E W _ z (fun q=>q < w1.heap.size\/q=z) 33 0 0 [] [] (hdp s.tl) [Tr.mk 30 0 0 [] x.1.t x.2 []] (some ⟨r,0,none⟩) 1 [41] _ _ _ hW hb hp dO fT kG EG (by simp only [List.length_singleton];omega) rfl (by simp) HQ.out)
  obtain ⟨_,_,aal,_⟩:=FI.jX
  go_wp2_with (first
   |(go_at_call 132;(with_reducible refine (Tq.out _ aB bz nR (fun q hq=>Nat.lt_of_lt_of_le (Re q hq) (by first|(simp;done)|(simp;omega)|omega))).mono ?_);rintro e Ms ⟨rfl,TA,G5,k51,ahn,m51,p51,t51,a51,ab8,A51,c51,rfl,vW,uJ,amW,_⟩;have Y9:Gr (·=E.b) w Ms:=lC aJ G5 (by omega) Rf;have Ka:ag Ms w.heap.size 53 (T4 x.1.k (bs x.1.t) x.1.n x.2):=G5.blk bz (fun e=>e.elim (fun e=>by omega) (fun e=>e.elim (fun e=>by omega) (fun e=>(Cv).1 _ e ve)));have FJ:ag Ms (w.heap.size+1) 24 Z7:=G5.blk bz (fun e=>e.elim (fun e=>by omega) (fun e=>e.elim (fun e=>by omega) (fun e=>(Cv).1 _ e cB)));obtain ⟨_,ajo,ajp,ajq,ajr,ajs,ajt,aej,_⟩:=vW.av;obtain ⟨_,aju,ajv,ajw,ajx,ajy,ajz,ajA,ajB⟩:=FJ.av))
  exact aX Tryz.results140 rfl rfl dS ⟨aJ,aB,k51,ahn,m51,p51,t51,a51,ab8,A51,c51,rfl,rfl,(ah.up (lo:=E.L) (X:=(fun q=>q < w1.heap.size\/q=z)) (v:=.slice A51 ab8.length c51) (ks:=ab8) uu (fun q hq=>by have:¬(q < w1.heap.size\/q=z):=hq;omega))⟩
 have cq:((bs x.1.t).toList == [109,97,107,101])=true:=by rw [iC];simpa using ht
 have cn:((bs x.1.t).toList != [109,97,107,101])=false:=by rw [iC];simpa using ht
 rw [if_pos ht] at heq
 clear ht
 by_cases he:(aj [40] s.tl).e=0
 case neg=>
  have e0:((aj [40] s.tl).e == 0)=false:=by simpa using he
  have e1':((aj [40] s.tl).e != 0)=true:=by simpa using he
  rw [if_neg he] at heq
  obtain ⟨x2,s2,h2,heq⟩:=bF heq
  simp only [Option.some.injEq,Prod.mk.injEq] at heq
  obtain ⟨rfl,rfl⟩:=heq
  have LV:=af (fun (W:World) (hW:RS E W (aj [44] (aj [40] s.tl)))=>show Calls Tryz.prog 80 #[.pointer (some ⟨E.b,0,none⟩),.int .i64 1] W (wH E W W.heap.size x2 s2) from Hn.expr E W _ 1 x2 s2 (by omega) (by omega) hW h2)
  clear he h2
  obtain ⟨_,_,aal,_⟩:=FI.jX
  obtain ⟨_,_,_,_,_,_,aam,_⟩:=Tz.here
  go_wp2_with (first
   |(go_at_call 25;(with_reducible refine (aA E _ (aj [40] s.tl) aB [44] ⟨#[44]⟩ rfl).mono ?_);rintro e Ms ⟨rfl,TA,G5⟩;have Y9:Gr (·=E.b) w Ms:=Gr.trans aJ (Gr.mono G5 (fun _ _ e=>e));have ab9:=G5.size;(try simp at ab9);have ajC:=TA.lt;have ajD:=TA.iy;have Ka:ag Ms w.heap.size 53 (T4 x.1.k (bs x.1.t) x.1.n x.2):=bU G5;have FJ:ag Ms (w.heap.size+1) 24 Z7:=bU G5;have vW:ag Ms z 24 (N7 33 0 0 ⟨#[]⟩ ⟨#[]⟩ (hdp s.tl) (.slice (some ⟨r,0,none⟩) 1 1)):=bU G5;have uJ:ah Ms E.L (fun q=>q < w1.heap.size\/q=z) (.slice (some ⟨r,0,none⟩) 1 1) [Tr.mk 30 0 0 [] x.1.t x.2 []]:=vJ G5))
  have dO:(fun q=>q < w1.heap.size\/q=z) z:=.inr rfl
  have Wi:∀q,(fun q=>q < w1.heap.size\/q=z) q->q < Ms.heap.size:=fun q hq=>Nat.lt_of_lt_of_le (Re q hq) (by omega)
  have IP:=Rf
  obtain ⟨_,_,_,_,_,_,_,aej,_⟩:=vW.av
  refine eX 11 3 5 6 7 8 10 1 4 9 E.b 80 #[.pointer (some ⟨E.b,0,none⟩),.int .i64 1] (fun _=>False) (fun W=>RS E W (aj [44] (aj [40] s.tl))) (fun t W=>t=x2/\RS E W s2)
   uJ dO Wi vW E.bL (by omega) fT TA.L (by simp [cK]) (kr E _ _ (by omega) (by omega)) TA (fun t=>bD E _ _ _ E.bL E.gL t) (fun t w u hd=>⟨hd.1,hd.2.setCell fT kG u⟩) (fun W hW=>(LV.out W hW).mono fun e w' h=>fH h) ?_ ?_
  ·rintro a w' c _ nL _
   exact absurd nL id
  rintro vals w52 A52 c52 u52 ⟨aho,Wj⟩ xX Rh zY Wl
  obtain rfl:=aho.symm
  have aek:=Rh.size
  dsimp only [bG,List.take_succ_cons,List.take_zero,List.take_nil]
  have O4:ag w52 (w.heap.size+1) 24 Z7:=Rh.blk FJ (fun e=>e.elim (fun e=>by omega) (fun e=>e.elim (fun e=>by omega) (fun e=>uJ.1 _ e cB)))
  have O5:ag w52 w.heap.size 53 (T4 x.1.k (bs x.1.t) x.1.n x.2):=Rh.blk Ka (fun e=>e.elim (fun e=>by omega) (fun e=>e.elim (fun e=>by omega) (fun e=>uJ.1 _ e ve)))
  have acd:Gr (·=E.b) w w52:=lC (v:=.slice (some ⟨r,0,none⟩) 1 1) Y9 Rh (by omega) IP
  obtain ⟨kb,hkb⟩:=aS ([Tr.mk 30 0 0 [] x.1.t x.2 []] ++ [x2])
  have eF:kb.length=2:=by rw [<-hkb];rfl
  have Ri:ah w52 E.L (fun q=>q < w1.heap.size\/q=z) (.slice A52 kb.length c52) kb:=by rw [eF,<-hkb];exact xX
  have Rj:ag w52 z 24 (N7 33 0 0 ⟨#[]⟩ ⟨#[]⟩ (hdp s.tl) (.slice A52 kb.length c52)):=by rw [eF];exact zY
  clear xX zY Wl
  have xX:=Ri
  have zY:=Rj
  clear Ri Rj
  have nZ:=af hkb
  clear eF hkb
  go_wp2_with (first
   |(go_at_call 25;(with_reducible refine (aA E _ s2 aB [41] ⟨#[41]⟩ rfl).mono ?_);rintro e w53 ⟨rfl,ahp,Wm⟩;have ael:=bP acd Wm;have Wn:=aD O5 Wm;have O6:=aD O4 Wm;obtain ⟨_,ajE,ajF,ajG,ajH,ajI,ajJ,ajK,ajL⟩:=O6.av;have Cw:=aD zY Wm;obtain ⟨_,ajM,ajN,ajO,ajP,ajQ,ajR,ajS,_⟩:=Cw.av;have FK:=dU xX Wm))
  exact aX Tryz.results140 rfl rfl dS ⟨aJ,aB,33,0,0,[],[],(hdp s.tl),kb,A52,c52,(by rw [<-nZ.out];rfl),rfl,(ah.up (lo:=E.L) (X:=(fun q=>q < w1.heap.size\/q=z)) (v:=.slice A52 kb.length c52) (ks:=kb) uu (fun q hq=>by have:¬(q < w1.heap.size\/q=z):=hq;omega))⟩
 rw [if_pos he] at heq
 obtain ⟨t1,s1,h1,heq⟩:=bF heq
 obtain ⟨x2,s2,h2,heq⟩:=bF heq
 simp only [Option.some.injEq,Prod.mk.injEq] at heq
 obtain ⟨rfl,rfl⟩:=heq
 have HE:=af he
 have nK:=af (fun W hW=>Hn.kind E W _ t1 s1 hW h1)
 have LV:=af (fun (W:World) (hW:RS E W (aj [44] s1))=>show Calls Tryz.prog 80 #[.pointer (some ⟨E.b,0,none⟩),.int .i64 1] W (wH E W W.heap.size x2 s2) from Hn.expr E W _ 1 x2 s2 (by omega) (by omega) hW h2)
 clear he h1 h2
 obtain ⟨_,_,aal,_⟩:=FI.jX
 obtain ⟨_,_,_,_,_,_,aam,_⟩:=Tz.here
 rw [HE.out] at aam
 go_wp2
 have dO:(fun q=>q < w1.heap.size\/q=z) z:=.inr rfl
 obtain ⟨_,_,_,_,_,_,_,ajT,_⟩:=O3.av
 refine eX 11 3 5 6 7 8 10 1 4 9 E.b 79 #[.pointer (some ⟨E.b,0,none⟩)] (fun _=>False) (fun W=>RS E W (aj [40] s.tl)) (fun t W=>t=t1/\RS E W s1)
  Cv dO Re O3 E.bL (by omega) fT Tz.L (by simp [cK]) (kr E _ _ (by omega) (by omega)) Tz (fun t=>bD E _ _ _ E.bL E.gL t) (fun t w u hd=>⟨hd.1,hd.2.setCell fT kG u⟩) (fun W hW=>(nK.out W hW).mono fun e w' h=>fH h) ?_ ?_
 ·rintro a w' c _ nL _
  exact absurd nL id
 rintro vals Ms A51 c51 u51 ⟨ahq,TA⟩ uJ Rk vW IP
 obtain rfl:=ahq.symm
 have ab9:=Rk.size
 have Wi:∀q,((fun q=>q < w1.heap.size\/q=z)) q->q < Ms.heap.size:=fun q hq=>Nat.lt_of_lt_of_le (Re q hq) ab9
 dsimp only [bG,List.take_succ_cons,List.take_zero,List.take_nil]
 have FJ:ag Ms (w.heap.size+1) 24 Z7:=Rk.blk Wh (fun e=>e.elim (fun e=>by omega) (fun e=>e.elim (fun e=>by omega) (fun e=>Cv.1 _ e cB)))
 have Ka:ag Ms w.heap.size 53 (T4 x.1.k (bs x.1.t) x.1.n x.2):=Rk.blk FI (fun e=>e.elim (fun e=>by omega) (fun e=>e.elim (fun e=>by omega) (fun e=>Cv.1 _ e ve)))
 have Y9:Gr (·=E.b) w Ms:=lC (v:=.slice (some ⟨r,0,none⟩) 1 1) ahj Rk (by omega) Rf
 obtain ⟨ka,hka⟩:=aS ([Tr.mk 30 0 0 [] x.1.t x.2 []] ++ [t1])
 have nM:ka.length=2:=by rw [<-hka];rfl
 rw [hka] at uJ
 have Wo:∀q_,(Value.slice A51 ka.length c51).ownBlock=some q_->w.heap.size<=q_:=fun q_ hq=>by rw [nM] at hq;exact (IP q_ hq).elim (Rf q_) (fun h=>by omega)
 have Rl:ah Ms E.L (fun q=>q < w1.heap.size\/q=z) (.slice A51 ka.length c51) ka:=by rw [nM];exact uJ
 have Rm:ag Ms z 24 (N7 33 0 0 ⟨#[]⟩ ⟨#[]⟩ (hdp s.tl) (.slice A51 ka.length c51)):=by rw [nM];exact vW
 clear uJ vW IP
 have uJ:=Rl
 have vW:=Rm
 have IP:=Wo
 clear Rl Rm Wo
 have Cr:=af nM
 have Fs:=af hka
 clear nM hka
 go_wp2_with (first
  |(go_at_call 25;(with_reducible refine (aA E _ s1 aB [44] ⟨#[44]⟩ rfl).mono ?_);rintro e w52 ⟨rfl,Wj,TB⟩;have acd:=bP Y9 TB;have aek:=TB.size;(try simp at aek);have ajU:=Wj.lt;have ajV:=Wj.iy;have O5:=aD Ka TB;have O4:=aD FJ TB;have zY:=aD vW TB;have xX:=dU uJ TB))
 have dO:(fun q=>q < w1.heap.size\/q=z) z:=.inr rfl
 have aem:∀q,(fun q=>q < w1.heap.size\/q=z) q->q < w52.heap.size:=fun q hq=>Nat.lt_of_lt_of_le (Wi q hq) (by omega)
 have Wl:=IP
 obtain ⟨_,_,_,_,_,_,_,ajW,_⟩:=zY.av
 refine eX 11 3 5 6 7 8 10 1 4 9 E.b 80 #[.pointer (some ⟨E.b,0,none⟩),.int .i64 1] (fun _=>False) (fun W=>RS E W (aj [44] s1)) (fun t W=>t=x2/\RS E W s2)
  xX dO aem zY E.bL (by omega) fT Wj.L (by rw [Cr.out];simp [cK]) (kr E _ _ (by omega) (by omega)) Wj (fun t=>bD E _ _ _ E.bL E.gL t) (fun t w u hd=>⟨hd.1,hd.2.setCell fT kG u⟩) (fun W hW=>(LV.out W hW).mono fun e w' h=>fH h) ?_ ?_
 ·rintro a w' c _ nL _
  exact absurd nL id
 rintro vals w53 A53 c53 u53 ⟨ahr,ahp⟩ FK Rn Cw aen
 obtain rfl:=ahr.symm
 have amX:=Rn.size
 dsimp only [bG,List.take_succ_cons,List.take_zero,List.take_nil]
 have O6:ag w53 (w.heap.size+1) 24 Z7:=Rn.blk O4 (fun e=>e.elim (fun e=>by omega) (fun e=>e.elim (fun e=>by omega) (fun e=>xX.1 _ e cB)))
 have Wn:ag w53 w.heap.size 53 (T4 x.1.k (bs x.1.t) x.1.n x.2):=Rn.blk O5 (fun e=>e.elim (fun e=>by omega) (fun e=>e.elim (fun e=>by omega) (fun e=>xX.1 _ e ve)))
 have ael:Gr (·=E.b) w w53:=lC (v:=.slice A51 ka.length c51) acd Rn (by omega) Wl
 obtain ⟨kb,hkb⟩:=aS (ka ++ [x2])
 have eF:kb.length=ka.length+1:=by rw [<-hkb];rw [List.length_append];rfl
 have Ro:ah w53 E.L (fun q=>q < w1.heap.size\/q=z) (.slice A53 kb.length c53) kb:=by rw [eF,<-hkb];exact FK
 have Rp:ag w53 z 24 (N7 33 0 0 ⟨#[]⟩ ⟨#[]⟩ (hdp s.tl) (.slice A53 kb.length c53)):=by rw [eF];exact Cw
 clear FK Cw aen
 have FK:=Ro
 have Cw:=Rp
 clear Ro Rp
 have nZ:=af hkb
 clear eF hkb
 go_wp2_with (first
  |(go_at_call 25;(with_reducible refine (aA E _ s2 aB [41] ⟨#[41]⟩ rfl).mono ?_);rintro e w54 ⟨rfl,amY,Wp⟩;have amZ:=bP ael Wp;have ahs:=aD Wn Wp;have ace:=aD O6 Wp;obtain ⟨_,ajX,ajY,ajZ,aj0,aj1,aj2,aj3,aj4⟩:=ace.av;have acf:=aD Cw Wp;obtain ⟨_,aj5,aj6,aj7,aj8,aj9,aka,akb,_⟩:=acf.av;have aht:=dU FK Wp))
 exact aX Tryz.results140 rfl rfl dS ⟨aJ,aB,33,0,0,[],[],(hdp s.tl),kb,A53,c53,(by rw [<-nZ.out,<-Fs.out];rfl),rfl,(ah.up (lo:=E.L) (X:=(fun q=>q < w1.heap.size\/q=z)) (v:=.slice A53 kb.length c53) (ks:=kb) uu (fun q hq=>by have:¬(q < w1.heap.size\/q=z):=hq;omega))⟩
theorem PY (n:Nat) (hn:n+10<=cK) (H:∀m,m<=n->qQ m):PM (n+1) (n+1) 82 .uW:=by
 intro E w s h0 X k op m p t a ks A c tr s' h su xO dO fT kG tZ hlen heq
 have hbL:=E.bL
 have hgL:=E.gL
 have hR0:=h
 simp only [m5] at heq
 obtain ⟨t2,s2,h1,heq⟩:=bF heq
 simp only [Option.some.injEq,Prod.mk.injEq] at heq
 obtain ⟨rfl,rfl⟩:=heq
 have fG:=af h1
 clear h1
 go_enter Tryz.func82,Tryz.ntmps82
 go_wp2_with (first
  |(go_at_call 25;(with_reducible refine (aA E _ s aB [91] ⟨#[91]⟩ rfl).mono ?_);rintro e w1 ⟨rfl,fB,hg1⟩;have hG1:Gr (fun q=>q=E.b\/q=h0\/(Value.slice A ks.length c).ownBlock=some q) w w1:=Gr.trans aJ (Gr.mono hg1 (fun _ _ e=>.inl e));have nY:ag w1 h0 24 (N7 k op m (bs p) (bs t) a (.slice A ks.length c)):=bU hg1;have qp:ah w1 E.L X (.slice A ks.length c) ks:=vJ hg1))
 go_loopg [10] n (fun gk _ wr=>∃(aU:List Tr) (A1:Option Addr) (c1:Nat) (sx:St),RS E wr sx/\ag wr h0 24 (N7 k op m (bs p) (bs t) a (.slice A1 aU.length c1))/\ah wr E.L X (.slice A1 aU.length c1) aU/\Gr (fun q=>q=E.b\/q=h0\/(Value.slice A ks.length c).ownBlock=some q) w wr/\(∀q,(Value.slice A1 aU.length c1).ownBlock=some q->(Value.slice A ks.length c).ownBlock=some q\/w.heap.size<=q)/\aU.length+gk<=ks.length+n/\gk<=n/\m5 gk (.vL (.mk k op m p t a aU)) sx=some (t2,s2))
 case atStart=>exact ⟨ks,A,c,_,fB,nY,qp,hG1,fun q h=>.inl h,Nat.le_refl _,Nat.le_refl _,fG.out⟩
 case round=>
  obtain ⟨aU,A1,c1,sx,gu,dP,fI,jk,gy,hlk,hgn,hq⟩:=hrel
  have Dy:w.heap.size<=wr.heap.size:=jk.size
  have jU:∀q,X q->q < wr.heap.size:=fun q hq=>Nat.lt_of_lt_of_le (tZ q hq) Dy
  cases gk with
  |zero=>exact absurd hq (by simp [m5])
  |succ f=>
   obtain ⟨_,_,_,_,_,_,e3,_⟩:=gu.here
   have abO:=dP.lt
   simp only [m5] at hq
   by_cases he:sx.e=0
   case neg=>
    have ez:(sx.e == 0)=false:=by simpa using he
    simp only [if_neg he,Option.some.injEq,Prod.mk.injEq] at hq
    obtain ⟨rfl,rfl⟩:=hq
    clear he
    go_wp2_with (first
     |(go_at_call 25;(with_reducible refine (aA E _ sx aB [93] ⟨#[93]⟩ rfl).mono ?_);rintro e bB ⟨rfl,fM,aV⟩;have gm:Gr (fun q=>q=E.b\/q=h0\/(Value.slice A ks.length c).ownBlock=some q) w bB:=Gr.trans aJ (Gr.mono aV (fun _ _ e=>.inl e));have bJ:ag bB h0 24 (N7 k op m (bs p) (bs t) a (.slice A1 aU.length c1)):=bU aV;have bZ:ah bB E.L X (.slice A1 aU.length c1) aU:=vJ aV))
    exact bodyPost_end (results_none rfl _ _ _) rfl ⟨rfl,fM,gm,_,_,_,_,_,_,_,_,_,rfl,bJ,bZ,gy,by omega⟩
   simp only [if_pos he] at hq
   rw [he] at e3
   clear he
   have HQ:=af hq
   clear hq
   cases ha:bX [97,110,121] (aG sx) with
   |true=>
    have HA:=af ha
    have U7:=af (show KW sx=aj [97,110,121] (aG sx) from by unfold KW;rw [if_pos ha])
    have Li:=af (show Uz sx= .mk 11 0 0 [] (ay sx) (hdp sx) [] from by unfold Uz;rw [if_pos ha])
    clear ha
    go_wp2_with (first
     |(go_at_call 26;(with_reducible refine (dR E _ sx aB).mono ?_);rintro e bB ⟨rfl,fM,aV⟩;have BG:Gr (·=E.b) wr bB:=Gr.trans aJ (Gr.mono aV (fun _ _ e=>e));have qR:=aV.size;(try simp at qR);have Br:=fM.lt)
     |(go_at_call 27;(with_reducible refine (au E _ (aG sx) aB [97,110,121] ⟨#[97,110,121]⟩ rfl).mono ?_);rintro e ek ⟨rfl,dH⟩;rw [HA.out];have jY:RS E ek (aG sx):=RS.below aB dH;have BH:=aL BG dH;have F8:ag ek bB.heap.size 24 (N7 11 0 0 ⟨#[]⟩ (bs (ay sx)) (hdp sx) (.slice none 0 0)):=ag.aC bz dH)
     |(go_at_call 25;(with_reducible refine (aA E _ (aG sx) aB [97,110,121] ⟨#[97,110,121]⟩ rfl).mono ?_);rintro e iP ⟨rfl,mW,gz⟩;have x8:=bP BH gz;have uM:=F8.call gz (by omega);have aim:=uM.lt))
    have acT:aI iP wr.heap.size (.slice none ([]:List Tr).length 0) ([]:List Tr):=aI.nil _ _ 0
    obtain ⟨TS,Xl⟩:=aS (aj [97,110,121] (aG sx))
    rw [Xl] at mW
    have hTV:KW sx=TS:=by rw [<-Xl];exact U7.out
    have HTS:=af hTV
    have fO:ag iP h0 24 (N7 k op m (bs p) (bs t) a (.slice A1 aU.length c1)):=ag.call (b:=E.b) dP x8 (by omega)
    have iH:ah iP E.L X (.slice A1 aU.length c1) aU:=ah.call (b:=E.b) fI x8 (by omega)
    have pz:Gr (fun q=>q=E.b\/q=h0\/(Value.slice A ks.length c).ownBlock=some q) w iP:=Gr.trans jk (x8.mono (fun _ _ e=>.inl e))
    have alX:wr.heap.size<=iP.heap.size:=x8.size
    clear Xl hTV
    obtain ⟨_,_,_,_,_,_,_,Md,_⟩:=fO.av
    obtain ⟨_,afM,afN,aba,afO,afP,afQ,afR,_⟩:=uM.av
    refine qW (S:=fun V=>Gr (fun q=>q=E.b) iP V) 7 (fun vals W=>vals 3=(.slice A1 aU.length c1)/\vals 5= .int .i64 (aU:List Tr).length/\vals 0=(.pointer (some ⟨h0,0,none⟩))/\vals 4= .agg #[.int .i64 11,.int .i64 0,.int .i64 0,.string ⟨#[]⟩,.string (bs (ay sx)),.int .i64 (hdp sx),.slice none 0 0]/\RS E W TS/\Gr (·=E.b) iP W/\∃q:Nat,vals 6= .slice (some ⟨q,0,none⟩) 1 1/\aI W wr.heap.size (.slice none ([]:List Tr).length 0) ([]:List Tr)/\aI W iP.heap.size (.slice (some ⟨q,0,none⟩) 1 1) [eU]) (by kernel_rfl) (by kernel_rfl) (Gr.refl _).drew (fun hS0=>?qY) ?hk
    case qY=>
     simp only [List.take_succ_cons,List.take_zero,List.take_nil]
     obtain ⟨kD,oh⟩:=aS iP.drew
     rw [oh] at hS0 |-
     have qX:Gr (fun q=>q=E.b) iP kD:=hS0
     clear hS0
     have pE:=dJ oh (RS.drew mW)
     have Y6:iP.heap.size+0<=kD.heap.size:=by rw [<-oh];exact Nat.le_refl _
     have jG:=aP oh (ag.drew fO)
     have pJ:=aP oh (ag.drew uM)
     have acU:aI kD wr.heap.size (.slice none ([]:List Tr).length 0) ([]:List Tr):=by rw [<-oh];exact aI.drew acT
     refine aQ 0 qX ?_
     refine aQ 1 qX ?_
     refine aQ 2 qX ?_
     refine jS 3 qX ?_ (fun w' hS=>(hS.cell (p:=⟨h0,6,none⟩) (by show h0 < _;omega) (by show ¬(h0=E.b);first|omega|(simp;omega))).trans Md)
     refine oU 4 qX ?_ (he:=fun w' hS=>by (have afS:=(hS.cell (p:=⟨bB.heap.size,0,none⟩) (by show bB.heap.size < _;omega) (by show ¬(bB.heap.size=E.b);first|omega|(simp;omega))).trans afM;have afT:=(hS.cell (p:=⟨bB.heap.size,1,none⟩) (by show bB.heap.size < _;omega) (by show ¬(bB.heap.size=E.b);first|omega|(simp;omega))).trans afN;have afU:=(hS.cell (p:=⟨bB.heap.size,2,none⟩) (by show bB.heap.size < _;omega) (by show ¬(bB.heap.size=E.b);first|omega|(simp;omega))).trans aba;have afV:=(hS.cell (p:=⟨bB.heap.size,3,none⟩) (by show bB.heap.size < _;omega) (by show ¬(bB.heap.size=E.b);first|omega|(simp;omega))).trans afO;have afW:=(hS.cell (p:=⟨bB.heap.size,4,none⟩) (by show bB.heap.size < _;omega) (by show ¬(bB.heap.size=E.b);first|omega|(simp;omega))).trans afP;have afX:=(hS.cell (p:=⟨bB.heap.size,5,none⟩) (by show bB.heap.size < _;omega) (by show ¬(bB.heap.size=E.b);first|omega|(simp;omega))).trans afQ;have afY:=(hS.cell (p:=⟨bB.heap.size,6,none⟩) (by show bB.heap.size < _;omega) (by show ¬(bB.heap.size=E.b);first|omega|(simp;omega))).trans afR;unfold execOp;go_simp;first|done|exact rfl))
     refine aQ 5 qX ?_
     refine qO 6 ?_
     obtain ⟨jL,vg⟩:=aS (kD.alloc (.cells #[.int .i64 0,.int .i64 0,.int .i64 0,.string ⟨#[]⟩,.string ⟨#[]⟩,.int .i64 0,.slice none 0 0] 24))
     have qV:=dJ vg (RS.alloc pE _)
     have F9:aI jL wr.heap.size (.slice none ([]:List Tr).length 0) ([]:List Tr):=by rw [<-vg];exact aI.alloc acU _
     have zT:=bK vg (Gr.alloc qX _)
     have Bz:aI jL iP.heap.size (.slice (some ⟨kD.heap.size,0,none⟩) 1 1) [eU]:=by rw [<-vg];exact aI.zero _ (by omega)
     refine aY (v:=(.slice (some ⟨kD.heap.size,0,none⟩) 1 1)) (w':=jL) (by rw [<-vg];unfold execOp;go_simp) (And.intro zT ?_)
     simp only [Act.put,gA,gB,gC,gD,gE,gF]
     refine eZ ?_
     have afZ:Gr (·=E.b) iP jL:=zT
     refine PQ.mk (fun i=>match i with|0=>.pointer (some ⟨h0,0,none⟩)|1=>.pointer (some ⟨h0,0,none⟩)|2=>.pointer (some ⟨h0,6,none⟩)|3=>.slice A1 aU.length c1|4=>.agg #[.int .i64 11,.int .i64 0,.int .i64 0,.string ⟨#[]⟩,.string (bs (ay sx)),.int .i64 (hdp sx),.slice none 0 0]|5=>.int .i64 (aU:List Tr).length|6=>.slice (some ⟨kD.heap.size,0,none⟩) 1 1|_=>undef) (by kernel_rfl) ?_
     exact ⟨rfl,rfl,rfl,rfl,qV,afZ,_,rfl,F9,Bz⟩
    case hk=>
    rintro vals BS ⟨V3,ev5,ev0,ev4,zV,MO,q63,ev6,abb,abd⟩
    show wpAnyH _ _ _ _ _ 6 _ _ _
    dsimp only [bG,List.take_succ_cons,List.take_zero,List.take_nil]
    simp only [Act.put,gA,gB,gC,gD,gE,gF]
    rw [V3,ev5,ev0,ev4,ev6]
    have alY:=MO.size
    have MP:ah BS E.L X (.slice A1 aU.length c1) aU:=iH.gr MO (fun q h1 _ _ h2=>by have:=E.bL;omega)
    have abe:ag BS h0 24 (N7 k op m (bs p) (bs t) a (.slice A1 aU.length c1)):=MO.blk fO (by show ¬h0=E.b;omega)
    refine oI 7 rfl (sS (N:=wr.heap.size) (h:=h0) (k:=11) (op:=0) (m:=0) (p:=[]) (t:=(ay sx)) (at_:=(hdp sx)) (us:=([]:List Tr)) MP dO jU (fun q hq=>(fI.own hq).2.1) (aI.mono abd (by omega)) abb (by have:=gu.L;omega) (by omega) (by omega) _ _ rfl rfl rfl ?_)
    intro TN c64 zB RP abf RQ Xm abg abh aga
    refine And.intro trivial ?_
    simp only [Act.put,gA,gB,gC,gD,gE,gF]
    refine Jl 8 (.pointer (some ⟨TN,(aU:List Tr).length*7,none⟩)) trivial ?_ (he:=fun w' _=>Ii _ _ _ _ _ _ _ TN ((aU:List Tr).length+1) c64 (aU:List Tr).length _ rfl rfl (by omega))
    simp only [Act.put,gA,gB,gC,gD,gE,gF]
    refine Jl 10 (.pointer (some ⟨h0,0,none⟩)) trivial ?_
    simp only [Act.put,gA,gB,gC,gD,gE,gF]
    refine Jl 11 (.pointer (some ⟨h0,6,none⟩)) trivial ?_
    simp only [Act.put,gA,gB,gC,gD,gE,gF]
    have abj:ag zB h0 24 (N7 k op m (bs p) (bs t) a (.slice A1 aU.length c1)):=RQ.blk abe (fun e=>MP.1 _ e dO)
    refine rJ 9 12 E.b h0 E.L TN c64 (0) 48 ((hdp sx)) (by kernel_rfl) (by kernel_rfl) (by kernel_rfl) (by kernel_rfl) (by kernel_rfl) ⟨_,_,_,rfl⟩ ⟨_,_,_,rfl⟩ rfl rfl rfl rfl RP abf dO abg abh abj ?_
    intro BR qZ Xn pF
    simp only [Act.put,gA,gB,gC,gD,gE,gF]
    have Mq:Gr (fun q=>q=E.b\/q=h0\/(Value.slice A1 aU.length c1).ownBlock=some q) iP BR:=((MO.mono (fun q _ e=>.inl e)).trans (RQ.mono (fun q _ e=>.inr (.inr e)))).wide Xn (fun q hq e=>e.elim (fun e=>by subst e;exact Xm.elim (fun h=>.inr (.inr h)) (fun h=>by have:=MO.size;omega)) (fun e=>.inr (.inl e)))
    have Mr:∀q,(Value.slice (some ⟨TN,0,none⟩) ((aU:List Tr).length+1) c64).ownBlock=some q->(Value.slice A1 aU.length c1).ownBlock=some q\/iP.heap.size<=q:=fun q hq=>by
     have e:TN=q:=Option.some.inj hq
     subst e
     exact Xm.imp id (fun h=>by omega)
    have Fz:RS E BR TS:=(zV.gr RQ (fun e=>(by have:=(MP.own e).1;have:=E.bL;omega)) (fun e=>(by have:=(MP.own e).1;have:=E.gL;omega))).gr Xn (fun e=>e.elim (fun e=>by have h9:=(RP.own (g:=TN) rfl).1;have:=E.bL;omega) (fun e=>fT e.symm)) (fun e=>e.elim (fun e=>by have h9:=(RP.own (g:=TN) rfl).1;have:=E.gL;omega) (fun e=>kG e.symm))
    clear RP abf RQ Xm abg abh aga abj abe MP abd abb V3 ev5 ev4 ev6 Xn
    have yU:Gr (fun q=>q=E.b\/q=h0\/(Value.slice A ks.length c).ownBlock=some q) w BR:=Gr.wide pz Mq (fun q hq hs=>hs.elim .inl (fun hs=>hs.elim (fun e=>.inr (.inl e)) (fun e=>(gy q e).elim (fun h=>.inr (.inr h)) (fun h=>by omega))))
    obtain ⟨bN,jf⟩:=aS (aU ++ [Tr.mk 11 0 0 [] (ay sx) (hdp sx) []])
    have hl2:bN.length=aU.length+1:=by rw [<-jf,List.length_append];rfl
    have Xo:∀q,(Value.slice (some ⟨TN,0,none⟩) bN.length c64).ownBlock=some q->(Value.slice A ks.length c).ownBlock=some q\/w.heap.size<=q:=fun q hq=>by
     rw [hl2] at hq
     exact (Mr q hq).elim (gy q) (fun h=>.inr (by omega))
    rw [jf,<-hl2] at qZ
    rw [<-hl2] at pF
    have hlk2:bN.length+f<=ks.length+n:=by omega
    have hq:=HQ.out
    rw [HTS.out,Li.out] at hq
    simp only [Tr.add,jf] at hq
    cases hi2:bX [44] TS with
    |false=>
     have HI2:=af hi2
     simp only [hi2,Bool.false_eq_true,if_false,Option.some.injEq,Prod.mk.injEq] at hq
     obtain ⟨rfl,rfl⟩:=hq
     clear hi2
     go_wp2_with (first
      |(go_at_call 27;(with_reducible refine (au E _ TS aB [44] ⟨#[44]⟩ rfl).mono ?_);rintro e zB ⟨rfl,iR⟩;rw [HI2.out];have Cu:=bA Fz iR;have uI:=aL yU iR;have mX:ag zB h0 24 (N7 k op m (bs p) (bs t) a (.slice (some ⟨TN,0,none⟩) bN.length c64)):=ag.aC bz iR;have nN:ah zB E.L X (.slice (some ⟨TN,0,none⟩) bN.length c64) bN:=ah.aC nR iR)
      |(go_at_call 25;(with_reducible refine (aA E _ TS aB [93] ⟨#[93]⟩ rfl).mono ?_);rintro e DV ⟨rfl,sI,jH⟩;have ug:=nV uI jH;have jQ:=mX.call jH (by omega);have kL:=dU nN jH))
     exact bodyPost_end (results_none rfl _ _ _) rfl ⟨rfl,sI,ug,_,_,_,_,_,_,_,_,_,rfl,jQ,kL,Xo,by omega⟩
    |true=>
     have HI2:=af hi2
     simp only [hi2,if_true] at hq
     have Cq:=af hq
     clear hi2 hq
     go_wp2_with (first
      |(go_at_call 27;(with_reducible refine (au E _ TS aB [44] ⟨#[44]⟩ rfl).mono ?_);rintro e zB ⟨rfl,iR⟩;rw [HI2.out];have Cu:=bA Fz iR;have uI:=aL yU iR;have mX:ag zB h0 24 (N7 k op m (bs p) (bs t) a (.slice (some ⟨TN,0,none⟩) bN.length c64)):=ag.aC bz iR;have nN:ah zB E.L X (.slice (some ⟨TN,0,none⟩) bN.length c64) bN:=ah.aC nR iR)
      |(go_at_call 25;(with_reducible refine (aA E _ TS aB [44] ⟨#[44]⟩ rfl).mono ?_);rintro e DV ⟨rfl,sI,jH⟩;have ug:=nV uI jH;have jQ:=mX.call jH (by omega);have kL:=dU nN jH))
     go_roundg f
     case measure=>omega
     case rel=>exact ⟨bN,(some ⟨TN,0,none⟩),c64,_,sI,jQ,kL,ug,Xo,hlk2,by omega,Cq.out⟩
   |false=>
   have HA:=af ha
   cases hc:bX [99,111,109,112,97,114,97,98,108,101] (aG sx) with
   |true=>
    have HC:=af hc
    have U7:=af (show KW sx=aj [99,111,109,112,97,114,97,98,108,101] (aG sx) from by unfold KW;rw [if_neg (by rw [ha];decide),if_pos hc])
    have Li:=af (show Uz sx= .mk 11 0 1 [] (ay sx) (hdp sx) [] from by unfold Uz;rw [if_neg (by rw [ha];decide),if_pos hc])
    clear ha hc
    go_wp2_with (first
     |(go_at_call 26;(with_reducible refine (dR E _ sx aB).mono ?_);rintro e bB ⟨rfl,fM,aV⟩;have BG:Gr (·=E.b) wr bB:=Gr.trans aJ (Gr.mono aV (fun _ _ e=>e));have qR:=aV.size;(try simp at qR);have Br:=fM.lt;have Dg:=fM.iy)
     |(go_at_call 27;(with_reducible refine (au E _ (aG sx) aB [97,110,121] ⟨#[97,110,121]⟩ rfl).mono ?_);rintro e ek ⟨rfl,dH⟩;rw [HA.out];have jY:RS E ek (aG sx):=RS.below aB dH;have BH:=aL BG dH;have F8:ag ek bB.heap.size 24 (N7 11 0 0 ⟨#[]⟩ (bs (ay sx)) (hdp sx) (.slice none 0 0)):=ag.aC bz dH)
     |(go_at_call 27;(with_reducible refine (au E _ (aG sx) aB [99,111,109,112,97,114,97,98,108,101] ⟨#[99,111,109,112,97,114,97,98,108,101]⟩ rfl).mono ?_);rintro e iP ⟨rfl,gz⟩;rw [HC.out];have mW:=bA jY gz;have x8:=aL BH gz;have uM:=F8.aC gz)
     |(go_at_call 25;(with_reducible refine (aA E _ (aG sx) aB [99,111,109,112,97,114,97,98,108,101] ⟨#[99,111,109,112,97,114,97,98,108,101]⟩ rfl).mono ?_);rintro e kD ⟨rfl,pE,mD⟩;have BI:=bP x8 mD;have pJ:=uM.call mD (by omega);obtain ⟨_,_,_,alZ,_,_,_,_,al0⟩:=pJ.av))
    refine nG (P:=fun W=>RS E W (aj [99,111,109,112,97,114,97,98,108,101] (aG sx))/\Gr (·=E.b) wr W/\ag W bB.heap.size 24 (N7 11 0 1 ⟨#[]⟩ (bs (ay sx)) (hdp sx) (.slice none 0 0))/\kD.heap.size+0<=W.heap.size) ⟨aB,aJ,bz,(by first|(simp;done)|(simp;omega))⟩ ?_
    rintro jL ⟨qV,uz,uO,_⟩
    have WW:=uO.lt
    have F9:aI jL wr.heap.size (.slice none ([]:List Tr).length 0) ([]:List Tr):=aI.nil _ _ 0
    obtain ⟨TS,Xl⟩:=aS (aj [99,111,109,112,97,114,97,98,108,101] (aG sx))
    rw [Xl] at qV
    have hTV:KW sx=TS:=by rw [<-Xl];exact U7.out
    have HTS:=af hTV
    have jP:ag jL h0 24 (N7 k op m (bs p) (bs t) a (.slice A1 aU.length c1)):=ag.call (b:=E.b) dP uz (by omega)
    have oJ:ah jL E.L X (.slice A1 aU.length c1) aU:=ah.call (b:=E.b) fI uz (by omega)
    have Bt:Gr (fun q=>q=E.b\/q=h0\/(Value.slice A ks.length c).ownBlock=some q) w jL:=Gr.trans jk (uz.mono (fun _ _ e=>.inl e))
    have agb:wr.heap.size<=jL.heap.size:=uz.size
    clear Xl hTV
    obtain ⟨_,_,_,_,_,_,_,Rx,_⟩:=jP.av
    obtain ⟨_,Xp,Xq,Xr,Xt,Xu,Xv,Xw,_⟩:=uO.av
    refine qW (S:=fun V=>Gr (fun q=>q=E.b) jL V) 7 (fun vals W=>vals 3=(.slice A1 aU.length c1)/\vals 5= .int .i64 (aU:List Tr).length/\vals 0=(.pointer (some ⟨h0,0,none⟩))/\vals 4= .agg #[.int .i64 11,.int .i64 0,.int .i64 1,.string ⟨#[]⟩,.string (bs (ay sx)),.int .i64 (hdp sx),.slice none 0 0]/\RS E W TS/\Gr (·=E.b) jL W/\∃q:Nat,vals 6= .slice (some ⟨q,0,none⟩) 1 1/\aI W wr.heap.size (.slice none ([]:List Tr).length 0) ([]:List Tr)/\aI W jL.heap.size (.slice (some ⟨q,0,none⟩) 1 1) [eU]) (by kernel_rfl) (by kernel_rfl) (Gr.refl _).drew (fun hS0=>?qY) ?hk
    case qY=>
     simp only [List.take_succ_cons,List.take_zero,List.take_nil]
     obtain ⟨w16,mJ⟩:=aS jL.drew
     rw [mJ] at hS0 |-
     have pV:Gr (fun q=>q=E.b) jL w16:=hS0
     clear hS0
     have zQ:=dJ mJ (RS.drew qV)
     have ad8:jL.heap.size+0<=w16.heap.size:=by rw [<-mJ];exact Nat.le_refl _
     have zR:=aP mJ (ag.drew jP)
     have acV:=aP mJ (ag.drew uO)
     have PZ:aI w16 wr.heap.size (.slice none ([]:List Tr).length 0) ([]:List Tr):=by rw [<-mJ];exact aI.drew F9
     refine aQ 0 pV ?_
     refine aQ 1 pV ?_
     refine aQ 2 pV ?_
     refine jS 3 pV ?_ (fun w' hS=>(hS.cell (p:=⟨h0,6,none⟩) (by show h0 < _;omega) (by show ¬(h0=E.b);first|omega|(simp;omega))).trans Rx)
     refine oU 4 pV ?_ (he:=fun w' hS=>by (have afS:=(hS.cell (p:=⟨bB.heap.size,0,none⟩) (by show bB.heap.size < _;omega) (by show ¬(bB.heap.size=E.b);first|omega|(simp;omega))).trans Xp;have afT:=(hS.cell (p:=⟨bB.heap.size,1,none⟩) (by show bB.heap.size < _;omega) (by show ¬(bB.heap.size=E.b);first|omega|(simp;omega))).trans Xq;have afU:=(hS.cell (p:=⟨bB.heap.size,2,none⟩) (by show bB.heap.size < _;omega) (by show ¬(bB.heap.size=E.b);first|omega|(simp;omega))).trans Xr;have afV:=(hS.cell (p:=⟨bB.heap.size,3,none⟩) (by show bB.heap.size < _;omega) (by show ¬(bB.heap.size=E.b);first|omega|(simp;omega))).trans Xt;have afW:=(hS.cell (p:=⟨bB.heap.size,4,none⟩) (by show bB.heap.size < _;omega) (by show ¬(bB.heap.size=E.b);first|omega|(simp;omega))).trans Xu;have afX:=(hS.cell (p:=⟨bB.heap.size,5,none⟩) (by show bB.heap.size < _;omega) (by show ¬(bB.heap.size=E.b);first|omega|(simp;omega))).trans Xv;have afY:=(hS.cell (p:=⟨bB.heap.size,6,none⟩) (by show bB.heap.size < _;omega) (by show ¬(bB.heap.size=E.b);first|omega|(simp;omega))).trans Xw;unfold execOp;go_simp;first|done|exact rfl))
     refine aQ 5 pV ?_
     refine qO 6 ?_
     obtain ⟨Ty,vS⟩:=aS (w16.alloc (.cells #[.int .i64 0,.int .i64 0,.int .i64 0,.string ⟨#[]⟩,.string ⟨#[]⟩,.int .i64 0,.slice none 0 0] 24))
     have V7:=dJ vS (RS.alloc zQ _)
     have P5:aI Ty wr.heap.size (.slice none ([]:List Tr).length 0) ([]:List Tr):=by rw [<-vS];exact aI.alloc PZ _
     have Mo:=bK vS (Gr.alloc pV _)
     have Kw:aI Ty jL.heap.size (.slice (some ⟨w16.heap.size,0,none⟩) 1 1) [eU]:=by rw [<-vS];exact aI.zero _ (by omega)
     refine aY (v:=(.slice (some ⟨w16.heap.size,0,none⟩) 1 1)) (w':=Ty) (by rw [<-vS];unfold execOp;go_simp) (And.intro Mo ?_)
     simp only [Act.put,gA,gB,gC,gD,gE,gF]
     refine eZ ?_
     have Xx:Gr (·=E.b) jL Ty:=Mo
     refine PQ.mk (fun i=>match i with|0=>.pointer (some ⟨h0,0,none⟩)|1=>.pointer (some ⟨h0,0,none⟩)|2=>.pointer (some ⟨h0,6,none⟩)|3=>.slice A1 aU.length c1|4=>.agg #[.int .i64 11,.int .i64 0,.int .i64 1,.string ⟨#[]⟩,.string (bs (ay sx)),.int .i64 (hdp sx),.slice none 0 0]|5=>.int .i64 (aU:List Tr).length|6=>.slice (some ⟨w16.heap.size,0,none⟩) 1 1|_=>undef) (by kernel_rfl) ?_
     exact ⟨rfl,rfl,rfl,rfl,V7,Xx,_,rfl,P5,Kw⟩
    case hk=>
    rintro vals zB ⟨V3,ev5,ev0,ev4,Cu,yf,q65,ev6,MQ,MR⟩
    show wpAnyH _ _ _ _ _ 6 _ _ _
    dsimp only [bG,List.take_succ_cons,List.take_zero,List.take_nil]
    simp only [Act.put,gA,gB,gC,gD,gE,gF]
    rw [V3,ev5,ev0,ev4,ev6]
    have agc:=yf.size
    have yg:ah zB E.L X (.slice A1 aU.length c1) aU:=oJ.gr yf (fun q h1 _ _ h2=>by have:=E.bL;omega)
    have MS:ag zB h0 24 (N7 k op m (bs p) (bs t) a (.slice A1 aU.length c1)):=yf.blk jP (by show ¬h0=E.b;omega)
    refine oI 7 rfl (sS (N:=wr.heap.size) (h:=h0) (k:=11) (op:=0) (m:=1) (p:=[]) (t:=(ay sx)) (at_:=(hdp sx)) (us:=([]:List Tr)) yg dO jU (fun q hq=>(fI.own hq).2.1) (aI.mono MR (by omega)) MQ (by have:=gu.L;omega) (by omega) (by omega) _ _ rfl rfl rfl ?_)
    intro CO Ky yD BK MU BL Ga MV MW Xy
    refine And.intro trivial ?_
    simp only [Act.put,gA,gB,gC,gD,gE,gF]
    refine Jl 8 (.pointer (some ⟨CO,(aU:List Tr).length*7,none⟩)) trivial ?_ (he:=fun w' _=>Ii _ _ _ _ _ _ _ CO ((aU:List Tr).length+1) Ky (aU:List Tr).length _ rfl rfl (by omega))
    simp only [Act.put,gA,gB,gC,gD,gE,gF]
    refine Jl 10 (.pointer (some ⟨h0,0,none⟩)) trivial ?_
    simp only [Act.put,gA,gB,gC,gD,gE,gF]
    refine Jl 11 (.pointer (some ⟨h0,6,none⟩)) trivial ?_
    simp only [Act.put,gA,gB,gC,gD,gE,gF]
    have MX:ag yD h0 24 (N7 k op m (bs p) (bs t) a (.slice A1 aU.length c1)):=BL.blk MS (fun e=>yg.1 _ e dO)
    refine rJ 9 12 E.b h0 E.L CO Ky (0) 48 ((hdp sx)) (by kernel_rfl) (by kernel_rfl) (by kernel_rfl) (by kernel_rfl) (by kernel_rfl) ⟨_,_,_,rfl⟩ ⟨_,_,_,rfl⟩ rfl rfl rfl rfl BK MU dO MV MW MX ?_
    intro DV kL Gb jQ
    simp only [Act.put,gA,gB,gC,gD,gE,gF]
    have Xz:Gr (fun q=>q=E.b\/q=h0\/(Value.slice A1 aU.length c1).ownBlock=some q) jL DV:=((yf.mono (fun q _ e=>.inl e)).trans (BL.mono (fun q _ e=>.inr (.inr e)))).wide Gb (fun q hq e=>e.elim (fun e=>by subst e;exact Ga.elim (fun h=>.inr (.inr h)) (fun h=>by have:=yf.size;omega)) (fun e=>.inr (.inl e)))
    have ME:∀q,(Value.slice (some ⟨CO,0,none⟩) ((aU:List Tr).length+1) Ky).ownBlock=some q->(Value.slice A1 aU.length c1).ownBlock=some q\/jL.heap.size<=q:=fun q hq=>by
     have e:CO=q:=Option.some.inj hq
     subst e
     exact Ga.imp id (fun h=>by omega)
    have sI:RS E DV TS:=(Cu.gr BL (fun e=>(by have:=(yg.own e).1;have:=E.bL;omega)) (fun e=>(by have:=(yg.own e).1;have:=E.gL;omega))).gr Gb (fun e=>e.elim (fun e=>by have h9:=(BK.own (g:=CO) rfl).1;have:=E.bL;omega) (fun e=>fT e.symm)) (fun e=>e.elim (fun e=>by have h9:=(BK.own (g:=CO) rfl).1;have:=E.gL;omega) (fun e=>kG e.symm))
    clear BK MU BL Ga MV MW Xy MX MS yg MR MQ V3 ev5 ev4 ev6 Gb
    have ug:Gr (fun q=>q=E.b\/q=h0\/(Value.slice A ks.length c).ownBlock=some q) w DV:=Gr.wide Bt Xz (fun q hq hs=>hs.elim .inl (fun hs=>hs.elim (fun e=>.inr (.inl e)) (fun e=>(gy q e).elim (fun h=>.inr (.inr h)) (fun h=>by omega))))
    obtain ⟨bN,jf⟩:=aS (aU ++ [Tr.mk 11 0 1 [] (ay sx) (hdp sx) []])
    have hl2:bN.length=aU.length+1:=by rw [<-jf,List.length_append];rfl
    have Gc:∀q,(Value.slice (some ⟨CO,0,none⟩) bN.length Ky).ownBlock=some q->(Value.slice A ks.length c).ownBlock=some q\/w.heap.size<=q:=fun q hq=>by
     rw [hl2] at hq
     exact (ME q hq).elim (gy q) (fun h=>.inr (by omega))
    rw [jf,<-hl2] at kL
    rw [<-hl2] at jQ
    have hlk2:bN.length+f<=ks.length+n:=by omega
    have hq:=HQ.out
    rw [HTS.out,Li.out] at hq
    simp only [Tr.add,jf] at hq
    cases hi2:bX [44] TS with
    |false=>
     have HI2:=af hi2
     simp only [hi2,Bool.false_eq_true,if_false,Option.some.injEq,Prod.mk.injEq] at hq
     obtain ⟨rfl,rfl⟩:=hq
     clear hi2
     go_wp2_with (first
      |(go_at_call 27;(with_reducible refine (au E _ TS aB [44] ⟨#[44]⟩ rfl).mono ?_);rintro e yD ⟨rfl,nO⟩;rw [HI2.out];have FB:=bA sI nO;have xU:=aL ug nO;have nP:ag yD h0 24 (N7 k op m (bs p) (bs t) a (.slice (some ⟨CO,0,none⟩) bN.length Ky)):=ag.aC bz nO;have mF:ah yD E.L X (.slice (some ⟨CO,0,none⟩) bN.length Ky) bN:=ah.aC nR nO)
      |(go_at_call 25;(with_reducible refine (aA E _ TS aB [93] ⟨#[93]⟩ rfl).mono ?_);rintro e w68 ⟨rfl,FC,qG⟩;have FD:=nV xU qG;have rU:=nP.call qG (by omega);have tL:=dU mF qG))
     exact bodyPost_end (results_none rfl _ _ _) rfl ⟨rfl,FC,FD,_,_,_,_,_,_,_,_,_,rfl,rU,tL,Gc,by omega⟩
    |true=>
     have HI2:=af hi2
     simp only [hi2,if_true] at hq
     have Cq:=af hq
     clear hi2 hq
     go_wp2_with (first
      |(go_at_call 27;(with_reducible refine (au E _ TS aB [44] ⟨#[44]⟩ rfl).mono ?_);rintro e yD ⟨rfl,nO⟩;rw [HI2.out];have FB:=bA sI nO;have xU:=aL ug nO;have nP:ag yD h0 24 (N7 k op m (bs p) (bs t) a (.slice (some ⟨CO,0,none⟩) bN.length Ky)):=ag.aC bz nO;have mF:ah yD E.L X (.slice (some ⟨CO,0,none⟩) bN.length Ky) bN:=ah.aC nR nO)
      |(go_at_call 25;(with_reducible refine (aA E _ TS aB [44] ⟨#[44]⟩ rfl).mono ?_);rintro e w68 ⟨rfl,FC,qG⟩;have FD:=nV xU qG;have rU:=nP.call qG (by omega);have tL:=dU mF qG))
     go_roundg f
     case measure=>omega
     case rel=>exact ⟨bN,(some ⟨CO,0,none⟩),Ky,_,FC,rU,tL,FD,Gc,hlk2,by omega,Cq.out⟩
   |false=>
   have HC:=af hc
   have U7:=af (show KW sx=gq (aG sx) from by unfold KW;rw [if_neg (by rw [ha];decide),if_neg (by rw [hc];decide)])
   have Li:=af (show Uz sx= .mk 11 0 2 [] (ay sx) (hdp sx) [gp (aG sx)] from by unfold Uz;rw [if_neg (by rw [ha];decide),if_neg (by rw [hc];decide)])
   clear ha hc
   go_wp2_with (first
    |(go_at_call 26;(with_reducible refine (dR E _ sx aB).mono ?_);rintro e bB ⟨rfl,fM,aV⟩;have BG:Gr (·=E.b) wr bB:=Gr.trans aJ (Gr.mono aV (fun _ _ e=>e));have qR:=aV.size;(try simp at qR);have Br:=fM.lt;have Dg:=fM.iy)
    |(go_at_call 27;(with_reducible refine (au E _ (aG sx) aB [97,110,121] ⟨#[97,110,121]⟩ rfl).mono ?_);rintro e ek ⟨rfl,dH⟩;rw [HA.out];have jY:RS E ek (aG sx):=RS.below aB dH;have BH:=aL BG dH;have F8:ag ek bB.heap.size 24 (N7 11 0 0 ⟨#[]⟩ (bs (ay sx)) (hdp sx) (.slice none 0 0)):=ag.aC bz dH)
    |(go_at_call 27;(with_reducible refine (au E _ (aG sx) aB [99,111,109,112,97,114,97,98,108,101] ⟨#[99,111,109,112,97,114,97,98,108,101]⟩ rfl).mono ?_);rintro e iP ⟨rfl,gz⟩;rw [HC.out];have mW:=bA jY gz;have x8:=aL BH gz;have uM:=F8.aC gz;obtain ⟨_,_,_,aba,_,_,_,_,al1⟩:=uM.av))
   refine nG (P:=fun W=>RS E W (aG sx)/\Gr (·=E.b) wr W/\ag W bB.heap.size 24 (N7 11 0 2 ⟨#[]⟩ (bs (ay sx)) (hdp sx) (.slice none 0 0))/\iP.heap.size+0<=W.heap.size) ⟨aB,aJ,bz,(by first|(simp;done)|(simp;omega))⟩ ?_
   rintro kD ⟨pE,BI,pJ,_⟩
   have al2:=pE.lt
   have al3:=pE.iy
   have acF:=pJ.lt
   have qU:=BI
   have hnX:ah kD E.L (fun q=>q<=bB.heap.size) (.slice none 0 0) ([]:List Tr):=ah.none_ _ _ _
   have uN:=hnX
   have agd:∀q,(fun q=>q<=bB.heap.size) q->q < kD.heap.size:=fun q hq=>by have:q<=bB.heap.size:=hq;omega
   have PE:(fun q=>q<=bB.heap.size) bB.heap.size:=Nat.le_refl _
   have hkb:bB.heap.size≠E.b:=by omega
   have hkg:bB.heap.size≠E.g:=by omega
   have age:∀q,(Value.slice none 0 0).ownBlock=some q->wr.heap.size<=q:=fun q e=>by cases e
   obtain ⟨_,_,_,_,_,_,_,WU,abk⟩:=pJ.av
   refine dD E.b E.L bB.heap.size (.pointer (some ⟨E.b,0,none⟩)) 94 #[.pointer (some ⟨E.b,0,none⟩)] (fun _=>False) (fun t W=>t=(gp (aG sx))/\RS E W (gq (aG sx))) (uN.x PE) uN agd WU (abk 6) E.bL pJ.lt pE.L hkb (by simp [cK]) (fun t=>bD E _ _ _ (by omega) (by omega) t) (fun t=>bD E _ _ _ E.bL E.gL t) ((Ba E kD.drew (aG sx) pE.drew).mono fun e w' h=>fH h) ?_ ?_
   ·rintro a w' c _ nL _
    exact absurd nL id
   rintro vals w' GZ c15 u15 ⟨ain,qx⟩ _ hpx hgx eB hgo
   obtain rfl:=ain.symm
   obtain ⟨jL,hW⟩:=aS (w'.setCell ⟨bB.heap.size,6,none⟩ (.slice GZ (([]:List Tr).length+1) c15))
   have hsx:=eB.size
   have qV:RS E jL (gq (aG sx)):=hW▸qx.setCell (p:=⟨bB.heap.size,6,none⟩) hkb hkg _
   have uz:Gr (·=E.b) wr jL:=hW▸Gr.setCell (p:=⟨bB.heap.size,6,none⟩) (jD qU eB age) (.inl (by show wr.heap.size<=bB.heap.size;omega)) _
   have uO:ag jL bB.heap.size 24 (N7 11 0 2 ⟨#[]⟩ (bs (ay sx)) (hdp sx) (.slice GZ (([]:List Tr).length+1) c15)):=hW▸ag.jC (ag.wx pJ eB hkb (fun e=>uN.1 _ e PE)) _
   have WW:=uO.lt
   have PG:ah jL E.L (fun q=>q<=bB.heap.size) (.slice GZ (([]:List Tr).length+1) c15) (([]:List Tr) ++ [gp (aG sx)]):=hW▸hpx.setCell (p:=⟨bB.heap.size,6,none⟩) (.inr PE) _
   rw [hW]
   clear hW qx hpx hgx eB hgo hsx
   have F9:aI jL wr.heap.size (.slice GZ [gp (aG sx)].length c15) [gp (aG sx)]:=ah.up PG (fun q hq=>by have:¬q<=bB.heap.size:=hq;omega)
   go_wp2
   obtain ⟨TS,Xl⟩:=aS (gq (aG sx))
   rw [Xl] at qV
   have hTV:KW sx=TS:=by rw [<-Xl];exact U7.out
   have HTS:=af hTV
   have jP:ag jL h0 24 (N7 k op m (bs p) (bs t) a (.slice A1 aU.length c1)):=ag.call (b:=E.b) dP uz (by omega)
   have oJ:ah jL E.L X (.slice A1 aU.length c1) aU:=ah.call (b:=E.b) fI uz (by omega)
   have Bt:Gr (fun q=>q=E.b\/q=h0\/(Value.slice A ks.length c).ownBlock=some q) w jL:=Gr.trans jk (uz.mono (fun _ _ e=>.inl e))
   have agb:wr.heap.size<=jL.heap.size:=uz.size
   clear Xl hTV
   obtain ⟨_,_,_,_,_,_,_,Rx,_⟩:=jP.av
   obtain ⟨_,Xp,Xq,Xr,Xt,Xu,Xv,Xw,_⟩:=uO.av
   refine qW (S:=fun V=>Gr (fun q=>q=E.b) jL V) 7 (fun vals W=>vals 3=(.slice A1 aU.length c1)/\vals 5= .int .i64 (aU:List Tr).length/\vals 0=(.pointer (some ⟨h0,0,none⟩))/\vals 4= .agg #[.int .i64 11,.int .i64 0,.int .i64 2,.string ⟨#[]⟩,.string (bs (ay sx)),.int .i64 (hdp sx),.slice GZ 1 c15]/\RS E W TS/\Gr (·=E.b) jL W/\∃q:Nat,vals 6= .slice (some ⟨q,0,none⟩) 1 1/\aI W wr.heap.size (.slice GZ [gp (aG sx)].length c15) [gp (aG sx)]/\aI W jL.heap.size (.slice (some ⟨q,0,none⟩) 1 1) [eU]) (by kernel_rfl) (by kernel_rfl) (Gr.refl _).drew (fun hS0=>?qY) ?hk
   case qY=>
    simp only [List.take_succ_cons,List.take_zero,List.take_nil]
    obtain ⟨w16,mJ⟩:=aS jL.drew
    rw [mJ] at hS0 |-
    have pV:Gr (fun q=>q=E.b) jL w16:=hS0
    clear hS0
    have zQ:=dJ mJ (RS.drew qV)
    have ad8:jL.heap.size+0<=w16.heap.size:=by rw [<-mJ];exact Nat.le_refl _
    have zR:=aP mJ (ag.drew jP)
    have acV:=aP mJ (ag.drew uO)
    have PZ:aI w16 wr.heap.size (.slice GZ [gp (aG sx)].length c15) [gp (aG sx)]:=by rw [<-mJ];exact aI.drew F9
    refine aQ 0 pV ?_
    refine aQ 1 pV ?_
    refine aQ 2 pV ?_
    refine jS 3 pV ?_ (fun w' hS=>(hS.cell (p:=⟨h0,6,none⟩) (by show h0 < _;omega) (by show ¬(h0=E.b);first|omega|(simp;omega))).trans Rx)
    refine oU 4 pV ?_ (he:=fun w' hS=>by (have afS:=(hS.cell (p:=⟨bB.heap.size,0,none⟩) (by show bB.heap.size < _;omega) (by show ¬(bB.heap.size=E.b);first|omega|(simp;omega))).trans Xp;have afT:=(hS.cell (p:=⟨bB.heap.size,1,none⟩) (by show bB.heap.size < _;omega) (by show ¬(bB.heap.size=E.b);first|omega|(simp;omega))).trans Xq;have afU:=(hS.cell (p:=⟨bB.heap.size,2,none⟩) (by show bB.heap.size < _;omega) (by show ¬(bB.heap.size=E.b);first|omega|(simp;omega))).trans Xr;have afV:=(hS.cell (p:=⟨bB.heap.size,3,none⟩) (by show bB.heap.size < _;omega) (by show ¬(bB.heap.size=E.b);first|omega|(simp;omega))).trans Xt;have afW:=(hS.cell (p:=⟨bB.heap.size,4,none⟩) (by show bB.heap.size < _;omega) (by show ¬(bB.heap.size=E.b);first|omega|(simp;omega))).trans Xu;have afX:=(hS.cell (p:=⟨bB.heap.size,5,none⟩) (by show bB.heap.size < _;omega) (by show ¬(bB.heap.size=E.b);first|omega|(simp;omega))).trans Xv;have afY:=(hS.cell (p:=⟨bB.heap.size,6,none⟩) (by show bB.heap.size < _;omega) (by show ¬(bB.heap.size=E.b);first|omega|(simp;omega))).trans Xw;unfold execOp;go_simp;first|done|exact rfl))
    refine aQ 5 pV ?_
    refine qO 6 ?_
    obtain ⟨Ty,vS⟩:=aS (w16.alloc (.cells #[.int .i64 0,.int .i64 0,.int .i64 0,.string ⟨#[]⟩,.string ⟨#[]⟩,.int .i64 0,.slice none 0 0] 24))
    have V7:=dJ vS (RS.alloc zQ _)
    have P5:aI Ty wr.heap.size (.slice GZ [gp (aG sx)].length c15) [gp (aG sx)]:=by rw [<-vS];exact aI.alloc PZ _
    have Mo:=bK vS (Gr.alloc pV _)
    have Kw:aI Ty jL.heap.size (.slice (some ⟨w16.heap.size,0,none⟩) 1 1) [eU]:=by rw [<-vS];exact aI.zero _ (by omega)
    refine aY (v:=(.slice (some ⟨w16.heap.size,0,none⟩) 1 1)) (w':=Ty) (by rw [<-vS];unfold execOp;go_simp) (And.intro Mo ?_)
    simp only [Act.put,gA,gB,gC,gD,gE,gF]
    refine eZ ?_
    have Xx:Gr (·=E.b) jL Ty:=Mo
    refine PQ.mk (fun i=>match i with|0=>.pointer (some ⟨h0,0,none⟩)|1=>.pointer (some ⟨h0,0,none⟩)|2=>.pointer (some ⟨h0,6,none⟩)|3=>.slice A1 aU.length c1|4=>.agg #[.int .i64 11,.int .i64 0,.int .i64 2,.string ⟨#[]⟩,.string (bs (ay sx)),.int .i64 (hdp sx),.slice GZ 1 c15]|5=>.int .i64 (aU:List Tr).length|6=>.slice (some ⟨w16.heap.size,0,none⟩) 1 1|_=>undef) (by kernel_rfl) ?_
    exact ⟨rfl,rfl,rfl,rfl,V7,Xx,_,rfl,P5,Kw⟩
   case hk=>
   rintro vals zB ⟨V3,ev5,ev0,ev4,Cu,yf,q65,ev6,MQ,MR⟩
   show wpAnyH _ _ _ _ _ 6 _ _ _
   dsimp only [bG,List.take_succ_cons,List.take_zero,List.take_nil]
   simp only [Act.put,gA,gB,gC,gD,gE,gF]
   rw [V3,ev5,ev0,ev4,ev6]
   have agc:=yf.size
   have yg:ah zB E.L X (.slice A1 aU.length c1) aU:=oJ.gr yf (fun q h1 _ _ h2=>by have:=E.bL;omega)
   have MS:ag zB h0 24 (N7 k op m (bs p) (bs t) a (.slice A1 aU.length c1)):=yf.blk jP (by show ¬h0=E.b;omega)
   refine oI 7 rfl (sS (N:=wr.heap.size) (h:=h0) (k:=11) (op:=0) (m:=2) (p:=[]) (t:=(ay sx)) (at_:=(hdp sx)) (us:=[gp (aG sx)]) yg dO jU (fun q hq=>(fI.own hq).2.1) (aI.mono MR (by omega)) MQ (by have:=gu.L;omega) (by omega) (by omega) _ _ rfl rfl rfl ?_)
   intro CO Ky yD BK MU BL Ga MV MW Xy
   refine And.intro trivial ?_
   simp only [Act.put,gA,gB,gC,gD,gE,gF]
   refine Jl 8 (.pointer (some ⟨CO,(aU:List Tr).length*7,none⟩)) trivial ?_ (he:=fun w' _=>Ii _ _ _ _ _ _ _ CO ((aU:List Tr).length+1) Ky (aU:List Tr).length _ rfl rfl (by omega))
   simp only [Act.put,gA,gB,gC,gD,gE,gF]
   refine Jl 10 (.pointer (some ⟨h0,0,none⟩)) trivial ?_
   simp only [Act.put,gA,gB,gC,gD,gE,gF]
   refine Jl 11 (.pointer (some ⟨h0,6,none⟩)) trivial ?_
   simp only [Act.put,gA,gB,gC,gD,gE,gF]
   have MX:ag yD h0 24 (N7 k op m (bs p) (bs t) a (.slice A1 aU.length c1)):=BL.blk MS (fun e=>yg.1 _ e dO)
   refine rJ 9 12 E.b h0 E.L CO Ky c15 48 ((hdp sx)) (by kernel_rfl) (by kernel_rfl) (by kernel_rfl) (by kernel_rfl) (by kernel_rfl) ⟨_,_,_,rfl⟩ ⟨_,_,_,rfl⟩ rfl rfl rfl rfl BK MU dO MV MW MX ?_
   intro DV kL Gb jQ
   simp only [Act.put,gA,gB,gC,gD,gE,gF]
   have Xz:Gr (fun q=>q=E.b\/q=h0\/(Value.slice A1 aU.length c1).ownBlock=some q) jL DV:=((yf.mono (fun q _ e=>.inl e)).trans (BL.mono (fun q _ e=>.inr (.inr e)))).wide Gb (fun q hq e=>e.elim (fun e=>by subst e;exact Ga.elim (fun h=>.inr (.inr h)) (fun h=>by have:=yf.size;omega)) (fun e=>.inr (.inl e)))
   have ME:∀q,(Value.slice (some ⟨CO,0,none⟩) ((aU:List Tr).length+1) Ky).ownBlock=some q->(Value.slice A1 aU.length c1).ownBlock=some q\/jL.heap.size<=q:=fun q hq=>by
    have e:CO=q:=Option.some.inj hq
    subst e
    exact Ga.imp id (fun h=>by omega)
   have sI:RS E DV TS:=(Cu.gr BL (fun e=>(by have:=(yg.own e).1;have:=E.bL;omega)) (fun e=>(by have:=(yg.own e).1;have:=E.gL;omega))).gr Gb (fun e=>e.elim (fun e=>by have h9:=(BK.own (g:=CO) rfl).1;have:=E.bL;omega) (fun e=>fT e.symm)) (fun e=>e.elim (fun e=>by have h9:=(BK.own (g:=CO) rfl).1;have:=E.gL;omega) (fun e=>kG e.symm))
   clear BK MU BL Ga MV MW Xy MX MS yg MR MQ V3 ev5 ev4 ev6 Gb
   have ug:Gr (fun q=>q=E.b\/q=h0\/(Value.slice A ks.length c).ownBlock=some q) w DV:=Gr.wide Bt Xz (fun q hq hs=>hs.elim .inl (fun hs=>hs.elim (fun e=>.inr (.inl e)) (fun e=>(gy q e).elim (fun h=>.inr (.inr h)) (fun h=>by omega))))
   obtain ⟨bN,jf⟩:=aS (aU ++ [Tr.mk 11 0 2 [] (ay sx) (hdp sx) [gp (aG sx)]])
   have hl2:bN.length=aU.length+1:=by rw [<-jf,List.length_append];rfl
   have Gc:∀q,(Value.slice (some ⟨CO,0,none⟩) bN.length Ky).ownBlock=some q->(Value.slice A ks.length c).ownBlock=some q\/w.heap.size<=q:=fun q hq=>by
    rw [hl2] at hq
    exact (ME q hq).elim (gy q) (fun h=>.inr (by omega))
   rw [jf,<-hl2] at kL
   rw [<-hl2] at jQ
   have hlk2:bN.length+f<=ks.length+n:=by omega
   have hq:=HQ.out
   rw [HTS.out,Li.out] at hq
   simp only [Tr.add,jf] at hq
   cases hi2:bX [44] TS with
   |false=>
    have HI2:=af hi2
    simp only [hi2,Bool.false_eq_true,if_false,Option.some.injEq,Prod.mk.injEq] at hq
    obtain ⟨rfl,rfl⟩:=hq
    clear hi2
    go_wp2_with (first
     |(go_at_call 27;(with_reducible refine (au E _ TS aB [44] ⟨#[44]⟩ rfl).mono ?_);rintro e yD ⟨rfl,nO⟩;rw [HI2.out];have FB:=bA sI nO;have xU:=aL ug nO;have nP:ag yD h0 24 (N7 k op m (bs p) (bs t) a (.slice (some ⟨CO,0,none⟩) bN.length Ky)):=ag.aC bz nO;have mF:ah yD E.L X (.slice (some ⟨CO,0,none⟩) bN.length Ky) bN:=ah.aC nR nO)
     |(go_at_call 25;(with_reducible refine (aA E _ TS aB [93] ⟨#[93]⟩ rfl).mono ?_);rintro e w68 ⟨rfl,FC,qG⟩;have FD:=nV xU qG;have rU:=nP.call qG (by omega);have tL:=dU mF qG))
    exact bodyPost_end (results_none rfl _ _ _) rfl ⟨rfl,FC,FD,_,_,_,_,_,_,_,_,_,rfl,rU,tL,Gc,by omega⟩
   |true=>
    have HI2:=af hi2
    simp only [hi2,if_true] at hq
    have Cq:=af hq
    clear hi2 hq
    go_wp2_with (first
     |(go_at_call 27;(with_reducible refine (au E _ TS aB [44] ⟨#[44]⟩ rfl).mono ?_);rintro e yD ⟨rfl,nO⟩;rw [HI2.out];have FB:=bA sI nO;have xU:=aL ug nO;have nP:ag yD h0 24 (N7 k op m (bs p) (bs t) a (.slice (some ⟨CO,0,none⟩) bN.length Ky)):=ag.aC bz nO;have mF:ah yD E.L X (.slice (some ⟨CO,0,none⟩) bN.length Ky) bN:=ah.aC nR nO)
     |(go_at_call 25;(with_reducible refine (aA E _ TS aB [44] ⟨#[44]⟩ rfl).mono ?_);rintro e w68 ⟨rfl,FC,qG⟩;have FD:=nV xU qG;have rU:=nP.call qG (by omega);have tL:=dU mF qG))
    go_roundg f
    case measure=>omega
    case rel=>exact ⟨bN,(some ⟨CO,0,none⟩),Ky,_,FC,rU,tL,FD,Gc,hlk2,by omega,Cq.out⟩
theorem iN (f:F5) (s:St) (x:Tr × St):m5 0 f s≠some x:=by simp [m5]
theorem TP:qQ 0 where
 kind:=fun _ _ _ _ _ _ h=>absurd h (iN _ _ _)
 dh:=fun _ _ _ _ _ _ h=>absurd h (iN _ _ _)
 typed:=fun _ _ _ _ _ _ h=>absurd h (iN _ _ _)
 function:=fun _ _ _ _ _ _ h=>absurd h (iN _ _ _)
 decl:=fun _ _ _ _ _ _ h=>absurd h (iN _ _ _)
 block:=fun _ _ _ _ _ _ h=>absurd h (iN _ _ _)
 stat:=fun _ _ _ _ _ _ h=>absurd h (iN _ _ _)
 uq:=fun _ _ _ _ _ _ h=>absurd h (iN _ _ _)
 simple:=fun _ _ _ _ _ _ h=>absurd h (iN _ _ _)
 unary:=fun _ _ _ _ _ _ h=>absurd h (iN _ _ _)
 made:=fun _ _ _ _ _ _ h=>absurd h (iN _ _ _)
 first:=fun _ _ _ _ _ _ h=>absurd h (iN _ _ _)
 great:=fun _ _ _ _ _ _ h=>absurd h (iN _ _ _)
 round:=fun _ _ _ _ _ _ h=>absurd h (iN _ _ _)
 expr:=fun _ _ _ _ _ _ _ _ _ h=>absurd h (iN _ _ _)
 kinds:=fun _ _ _ _ _ _ _ _ _ _ _ _ _ _ _ _ _ _ _ _ _ _ _ _ hq=>absurd hq (iN _ _ _)
 result:=fun _ _ _ _ _ _ _ _ _ _ _ _ _ _ _ _ _ _ _ _ _ _ _ _ hq=>absurd hq (iN _ _ _)
 params:=fun _ _ _ _ _ _ _ _ _ _ _ _ _ _ _ _ _ _ _ _ _ _ _ _ hq=>absurd hq (iN _ _ _)
 uW:=fun _ _ _ _ _ _ _ _ _ _ _ _ _ _ _ _ _ _ _ _ _ _ _ _ hq=>absurd hq (iN _ _ _)
 bracket:=fun _ _ _ _ _ _ _ _ _ _ _ _ _ _ _ _ _ _ _ _ _ _ _ hq=>absurd hq (iN _ _ _)
 several:=fun _ _ _ h _ _ _ _ _ _ _ _ _ _ _ _ _ _ _ _ _ _ _ _ _ _ _ _ hq=>absurd hq (iN _ _ _)
 built:=fun _ _ _ _ _ _ _ _ h=>absurd h (iN _ _ _)
 behind:=fun _ _ _ _ _ _ _ _ _ _ _ _ _ _ _ _ _ _ h=>absurd h (iN _ _ _)
theorem TQ (n:Nat) (hn:n+10<=cK) (H:∀m,m<=n->qQ m):qQ (n+1) where
 kind:=Tw n hn H
 dh:=GY n hn H
 typed:=Pz n hn H
 function:=He n hn H
 decl:=Tv n hn H Kr
 block:=OA n hn H
 stat:=Tu n hn H
 uq:=Tg n hn H
 simple:=Mt n hn H
 unary:=OW n hn H
 made:=Tx n hn H
 first:=OT n hn H
 great:=OJ n hn H
 round:=OH n hn H
 expr:=TK n hn H
 kinds:=Oz n hn H
 result:=LU n hn H
 params:=Me n hn H
 uW:=PY n hn H
 bracket:=JS n hn H
 several:=JP n hn H
 built:=O1 n hn H
 behind:=MC n hn H
theorem agf (n:Nat):n+9<=cK->qQ n:=by
 induction n using Nat.strongRecOn with
 |_ n ih=>
  intro hn
  cases n with
  |zero=>exact TP
  |succ n=>exact TQ n (by omega) fun m hm=>ih m (by omega) (by omega)
theorem lF (a b:List Tr):cZ (a ++ b)=cZ a+cZ b:=by
 induction a with
 |nil=>simp [cZ]
 |cons x a ih=>simp only [List.cons_append,cZ,ih];omega
theorem rM (t:Tr):cZ t.kids=t.nodes - 1:=by
 cases t
 simp [Tr.kids,Tr.nodes]
theorem oF (t:Tr):1<=t.nodes:=by
 cases t
 simp [Tr.nodes]
theorem nJ (k op n:Int) (p s:List UInt8) (a:Nat) (ks:List Tr):(Tr.mk k op n p s a ks).nodes=cZ ks+1:=by simp only [Tr.nodes]
theorem om (t:Tr) (r:List Tr):cZ (t :: r)=t.nodes+cZ r:=by simp only [cZ]
theorem tV:cZ []=0:=by simp only [cZ]
def ext:NT->Nat
 | .Ca _ t=>t.nodes| .behind t=>t.nodes| .lists _ acc=>cZ acc+1| .stats acc=>cZ acc+1| .imports acc=>cZ acc+1| .decls acc=>cZ acc+1| .parts _ acc=>cZ acc+1
 | .call t _=>t.nodes| .indexed t=>t.nodes| .lZ t=>t.nodes| .list _=>1
 |_=>0
theorem CP (p:Pt):ext p.nt=0:=by cases p <;> rfl
def sD (m:Nat):R->Prop
 | .ok t l=>t.nodes+2*l.length<=m
 |_=>True
theorem sD.mono {m m':Nat} {r:R} (h:sD m r) (hm:m<=m'):sD m' r:=by
 cases r with
 |ok t l=>exact Nat.le_trans h hm
 |bad a e=>trivial
 |out=>trivial
theorem sD.ok {m:Nat} {t:Tr} {l:List T} (h:t.nodes+2*l.length<=m):sD m (.ok t l):=h
theorem sD.refuse {m:Nat} {l:List T}:sD m (refuse l):=by
 cases l <;> trivial
theorem sD.bnd {m m':Nat} {r:R} {f:Tr->List T->R} (h:sD m r) (hf:∀t l,t.nodes+2*l.length<=m->sD m' (f t l)):sD m' (bnd r f):=by
 cases r with
 |ok t l=>exact hf t l h
 |bad a e=>trivial
 |out=>trivial
theorem sD.take {m:Nat} {l:List T} {f:T->List T->R} (hf:∀x r,r.length+1=l.length->sD m (f x r)):sD m (dI l f):=by
 cases l with
 |nil=>trivial
 |cons x r=>exact hf x r rfl
theorem sD.want {m:Nat} {l:List T} {s:List UInt8} {f:T->List T->R} (hf:∀x r,r.length+1=l.length->sD m (f x r)):sD m (want s l f):=by
 unfold Go.Proofs.YtnhidldofjengaaGreatDoor.want
 split
 ·exact sD.take hf
 ·exact sD.refuse
theorem sD.fu {m:Nat} {l:List T} {k:Int} {f:T->List T->R} (hf:∀x r,r.length+1=l.length->sD m (f x r)):sD m (fu k l f):=by
 unfold Go.Proofs.YtnhidldofjengaaGreatDoor.fu
 split
 ·exact sD.take hf
 ·exact sD.refuse
theorem sD.enter {m o:Nat} {l:List T} {s:List UInt8} {f:T->List T->R} (hf:∀x r,r.length+1=l.length->sD m (f x r)):sD m (enter s l o f):=by
 unfold Go.Proofs.YtnhidldofjengaaGreatDoor.enter
 refine sD.want fun x r h=>?_
 split
 ·trivial
 ·exact hf x r h
theorem XA:∀(n:Nat) (nt:NT) (l:List T) (o:Nat),sD (2*l.length+ext nt) (go n nt l o)
 |0,_,_,_=>trivial
 |n+1,nt,l,o=>by
  have ih:=XA n
  cases nt
  case call t p=>
   simp only [go]
   refine sD.take fun x r hl=>sD.bnd (ih _ _ _) fun ks l2 h2=>sD.ok ?_
   have:=oF ks
   simp only [ext,nd,nJ,om,rM] at*
   omega
  case dh=>
   simp only [go]
   refine sD.want fun _ r hl=>sD.bnd (ih _ _ _) fun t l h2=>?_
   cases t
   dsimp only
   repeat (first
    |(with_reducible refine sD.want ?_;intro _ r hl)
    |(with_reducible refine sD.fu ?_;intro x r hl)
    |(with_reducible refine sD.enter ?_;intro x r hl)
    |split
    |(with_reducible refine sD.take ?_;intro _ r hl)
    |(refine sD.bnd (ih _ _ _) ?_;intro t l hl;have:=oF t;try rw [CP] at hl)
    |exact sD.refuse
    |exact sD.ok (by first|(simp only [ext,nd,zm,NJ,nJ,om,tV,lF,rM] at*;omega)|(rw [CP];omega))
    |(refine sD.mono (ih _ _ _) (by first|(simp only [ext,nd,zm,NJ,nJ,om,tV,lF,rM] at*;omega)|(rw [CP];omega))))
  all_goals
   simp only [go]
   repeat (first
    |(with_reducible refine sD.want ?_;intro x r hl)
    |(with_reducible refine sD.fu ?_;intro x r hl)
    |(with_reducible refine sD.enter ?_;intro x r hl)
    |split
    |(with_reducible refine sD.take ?_;intro x r hl)
    |(refine sD.bnd (ih _ _ _) ?_;intro t l hl;have:=oF t;try rw [CP] at hl)
    |exact sD.refuse
    |exact sD.ok (by first|(simp only [ext,nd,zm,NJ,nJ,om,tV,lF,rM] at*;omega)|(rw [CP];omega))
    |(refine sD.mono (ih _ _ _) (by first|(simp only [ext,nd,zm,NJ,nJ,om,tV,lF,rM] at*;omega)|(rw [CP];omega))))
theorem P6 {ts l:List T} {n o:Nat} {t:Tr} (h:go n .file ts o= .ok t l):t.nodes<=2*ts.length:=by
 have:=XA n .file ts o
 rw [h] at this
 have h2:t.nodes+2*l.length<=2*ts.length+0:=this
 omega
mutual
theorem KA:∀t:Tr,t.deep<=t.nodes
 | .mk _ _ _ _ _ _ ks=>by
  have:=yj ks
  simp only [Tr.deep,Tr.nodes];omega
theorem yj:∀ks:List Tr,nI ks<=cZ ks
 |[]=>by simp [nI]
 |t :: r=>by
  have h1:=KA t
  have h2:=yj r
  simp only [nI,cZ];omega
end
theorem bO.at {w:World} {F:Nat->Prop}:∀{ts:List Tr} {xs:List Value},bO w F ts xs->∀(i:Nat) (t:Tr),ts[i]? =some t->∃vs,nW w F t vs/\∀(j:Nat) (v:Value),vs[j]? =some v->xs[i*7+j]? =some v
 |[],xs,h,i,t,ht=>by simp at ht
 |a :: r,xs,h,i,t,ht=>by
  simp only [bO] at h
  obtain ⟨va,q,rfl,h2,h3⟩:=h
  have hl:=h2.length
  cases i with
  |zero=>
   simp at ht
   subst ht
   refine ⟨va,h2,fun j v hv=>?_⟩
   have hj:=(List.getElem?_eq_some_iff.1 hv).1
   rw [Nat.zero_mul,Nat.zero_add,List.getElem?_append_left hj]
   exact hv
  |succ i=>
   obtain ⟨vs,h4,h5⟩:=bO.at h3 i t (by simpa using ht)
   refine ⟨vs,h4,fun j v hv=>?_⟩
   rw [List.getElem?_append_right (by omega),hl,show (i+1)*7+j - 7=i*7+j by omega]
   exact h5 j v hv
theorem uC (ks:List Tr) (i:Nat) (t:Tr) (h:ks[i]? =some t):cZ (ks.take (i+1))=cZ (ks.take i)+t.nodes:=by
 rw [List.take_add_one,h,Option.toList_some,lF,om,tV];omega
theorem KC (a b:List Tr):nI (a ++ b)=max (nI a) (nI b):=by
 induction a with
 |nil=>simp [nI]
 |cons x a ih=>simp only [List.cons_append,nI,ih];omega
theorem Ai (ks:List Tr) (i:Nat) (t:Tr) (h:ks[i]? =some t):nI (ks.take (i+1))=max (nI (ks.take i)) t.deep:=by
 rw [List.take_add_one,h,Option.toList_some,KC]
 simp only [nI];omega
theorem yG (ks:List Tr):ks.length<=cZ ks:=by
 induction ks with
 |nil=>simp
 |cons x r ih=>have:=oF x;simp only [List.length_cons,om];omega
theorem yH (ks:List Tr) (i:Nat) (t:Tr) (h:ks[i]? =some t):cZ (ks.take i)+t.nodes<=cZ ks:=by
 have h1:=uC ks i t h
 have h2:cZ ks=cZ (ks.take (i+1))+cZ (ks.drop (i+1)):=by rw [<-lF,List.take_append_drop]
 omega
theorem Gd (ks:List Tr) (i:Nat):cZ (ks.take i)<=cZ ks:=by
 have h2:cZ ks=cZ (ks.take i)+cZ (ks.drop i):=by rw [<-lF,List.take_append_drop]
 omega
theorem Gf (ks:List Tr) (i:Nat) (h:i<=ks.length):i<=cZ (ks.take i):=by
 have:=yG (ks.take i)
 rw [List.length_take] at this
 omega
def acW (w:World) (F:Nat->Prop) (A:Option Addr) (ks:List Tr):Prop:=
 ∀(i:Nat) (u:Tr),ks[i]? =some u->∃g us,A=some ⟨g,0,none⟩/\F g/\g < w.heap.size/\nW w F u us/\∀(j:Nat) (v:Value),us[j]? =some v->w.cell? ⟨g,i*7+j,none⟩=some v
theorem nW.Gg {w:World} {F:Nat->Prop} {k op n:Int} {p tx:List UInt8} {a:Nat} {ks:List Tr} {vs:List Value} (h:nW w F (.mk k op n p tx a ks) vs):
  ∃A c,vs=GG k op n p tx a (.slice A ks.length c)/\acW w F A ks:=by
 simp only [nW] at h
 obtain ⟨A,c,xs,rfl,hrow,RY⟩:=h
 refine ⟨A,c,rfl,fun i u hu=>?_⟩
 have hil:=(List.getElem?_eq_some_iff.1 hu).1
 obtain ⟨g,rfl,hF,hgl,hcell,_⟩:=hrow.2 (by omega)
 obtain ⟨us,hrep,hat⟩:=RY.at i u hu
 exact ⟨g,us,rfl,hF,hgl,hrep,fun j v hv=>hcell _ _ (hat j v hv)⟩
theorem nW.aC {w w':World} {F:Nat->Prop} {t:Tr} {vs:List Value} (h:nW w F t vs) (hb:Below w.heap.size w w'):nW w' F t vs:=
 nW.keep (fun g _ hg=>hb.block g hg) hb.size (fun _ _ h=>h) _ _ h
def XB (t:Tr) (M:Nat) (w:World) (e:Ending) (w':World):Prop:=
 ∃d:Nat,e= .returned (.tuple #[.int .i64 (min t.nodes (M+1):Nat),.int .i64 d])/\Below w.heap.size w w'/\d<=M+1/\(t.nodes<=M->d=t.deep)
theorem MZ:∀(N:Nat) (t:Tr),t.nodes<=N->∀(M:Nat) (w:World) (F:Nat->Prop) (vs:List Value),nW w F t vs->M<=20000->
  Calls Tryz.prog 15 #[.agg vs.toArray,.int .i64 M] w (XB t M w)
 |0,t,ht,_,_,_,_,_,_=>by have:=oF t;omega
 |N+1,.mk k op m p tx a ks,ht,M,w,F,vs,hr,hM=>by
  have ih:=MZ N
  obtain ⟨A,c,rfl,zD⟩:=hr.Gg
  rw [nJ] at ht
  have hnt:(Tr.mk k op m p tx a ks).nodes=cZ ks+1:=nJ ..
  have hdt:(Tr.mk k op m p tx a ks).deep=nI ks+1:=by simp only [Tr.deep]
  have HK:=af zD
  have HNT:=af hnt
  have HDT:=af hdt
  clear hnt hdt hr zD
  show Calls Tryz.prog 15 #[.agg #[.int .i64 k,.int .i64 op,.int .i64 m,.string (bs p),.string (bs tx),.int .i64 a,.slice A ks.length c],.int .i64 M] w _
  go_enter Tryz.func15,Tryz.ntmps15
  go_wp2
  go_loopg [6,7,8] ks.length (fun gk v6 v7 v8 wr=>∃j C D:Nat,j+gk=ks.length/\v8= .int .i64 (j:Int)/\v6= .int .i64 (C:Int)/\C=min (cZ (ks.take j)+1) (M+1)/\v7= .int .i64 (D:Int)/\D<=M/\(cZ (ks.take j)+1<=M->D=nI (ks.take j))/\Below w.heap.size w wr/\ag wr w.heap.size 24 (N7 k op m (bs p) (bs tx) a (.slice A ks.length c)))
  case atStart=>exact ⟨0,1,0,by simp,rfl,rfl,by simp [cZ],rfl,by omega,fun _=>by simp [nI],(Below.refl _ _).alloc (Nat.le_refl _) _,ag.new _ _ _⟩
  case round=>
   obtain ⟨j,C,D,hj,rfl,rfl,hC,rfl,hDM,hD,hb,hbx⟩:=hrel
   have bx:=hbx.cell 6
   have htl:=Gd ks j
   have hjn:=Gf ks j (by omega)
   by_cases hstop:gk=0\/¬C<=M
   ·have hfin:∃d:Nat,d=D+1/\C=min (Tr.mk k op m p tx a ks).nodes (M+1)/\d<=M+1/\((Tr.mk k op m p tx a ks).nodes<=M->d=(Tr.mk k op m p tx a ks).deep):=by
     refine ⟨D+1,rfl,?_,by omega,fun h=>?_⟩
     ·rw [HNT.out]
      rcases hstop with h0|h0
      ·obtain rfl:j=ks.length:=by omega
       rw [List.take_length] at hC
       omega
      ·omega
     ·rw [HNT.out] at h
      rw [HDT.out]
      rcases hstop with h0|h0
      ·obtain rfl:j=ks.length:=by omega
       rw [List.take_length] at hD
       have:=hD (by omega)
       omega
      ·omega
    obtain ⟨d,hd,hc2,hd2,hd3⟩:=hfin
    have HF:=af (And.intro hd (And.intro hc2 (And.intro hd2 hd3)))
    have d0:(0:Int)<=(D:Int):=by omega
    have d1:(D:Int)<=20000:=by omega
    clear hd hc2 hd2 hd3 hD hC htl hjn hDM
    by_cases hg0:gk=0
    ·have hlt:¬(j:Int) < (ks.length:Int):=by omega
     clear hstop hg0 hj
     go_wp2
     go_ret2
     refine ⟨d,?_,hb,HF.out.2.2.1,HF.out.2.2.2⟩
     rw [<-HF.out.2.1,HF.out.1]
     push_cast
     rfl
    ·have hlt:(j:Int) < (ks.length:Int):=by omega
     have hcm:¬(C:Int)<=(M:Int):=by omega
     clear hstop hg0 hj
     go_wp2
     go_ret2
     refine ⟨d,?_,hb,HF.out.2.2.1,HF.out.2.2.2⟩
     rw [<-HF.out.2.1,HF.out.1]
     push_cast
     rfl
   ·have hgk:gk≠0:=fun h=>hstop (.inl h)
    have hCM:C<=M:=Classical.byContradiction fun h=>hstop (.inr h)
    clear hstop
    cases gk with
    |zero=>exact absurd rfl hgk
    |succ f=>
     have hjl:j < ks.length:=by omega
     obtain ⟨u,hu⟩:=aS (ks[j])
     have rq:ks[j]? =some u:=by rw [<-hu];exact List.getElem?_eq_getElem hjl
     obtain ⟨g,vs,rfl,_,hgl,hrep,hat⟩:=HK.out j u rq
     have hnk:=yH ks j u rq
     have HN1:=af (uC ks j u rq)
     have HD1:=af (Ai ks j u rq)
     have hCe:C=cZ (ks.take j)+1:=by omega
     have hDe:D=nI (ks.take j):=hD (by omega)
     have HI:=af (show ∀w',Below w.heap.size w w'->Calls Tryz.prog 15 #[.agg vs.toArray,.int .i64 ((M:Int) - (C:Int))] w' (XB u (M - C) w') from fun w' hb'=>by
      have:=ih u (by omega) (M - C) w' F vs (hrep.aC hb') (by omega)
      rwa [show ((M - C:Nat):Int)=(M:Int) - (C:Int) by omega] at this)
     obtain ⟨k',op',m',p',t',a',n',c',A',rfl⟩:=hrep.shape
     have q0:=(hb.cell (p:=⟨g,j*7,none⟩) hgl).trans (hat 0 _ rfl)
     have q1:=(hb.cell (p:=⟨g,j*7+1,none⟩) hgl).trans (hat 1 _ rfl)
     have q2:=(hb.cell (p:=⟨g,j*7+2,none⟩) hgl).trans (hat 2 _ rfl)
     have q3:=(hb.cell (p:=⟨g,j*7+3,none⟩) hgl).trans (hat 3 _ rfl)
     have q4:=(hb.cell (p:=⟨g,j*7+4,none⟩) hgl).trans (hat 4 _ rfl)
     have q5:=(hb.cell (p:=⟨g,j*7+5,none⟩) hgl).trans (hat 5 _ rfl)
     have q6:=(hb.cell (p:=⟨g,j*7+6,none⟩) hgl).trans (hat 6 _ rfl)
     have hnu:=oF u
     have j0:(0:Int)<=(j:Int):=by omega
     have j1:(j:Int) < (ks.length:Int):=by omega
     have j2:(j:Int)<=20000:=by omega
     have c1:(C:Int)<=(M:Int):=by omega
     obtain ⟨mc,hmc⟩:=aS (min u.nodes (M - C+1))
     have HMC:=af hmc
     have c2:(0:Int)<=(mc:Int):=by omega
     have c3:(mc:Int)<=20001:=by omega
     have HMB:=af (And.intro hCe (And.intro hDe (And.intro hDM hnk)))
     clear hu rq hat hrep ih hmc hC hD htl hjn hCe hDe hnk hnu
     go_wp2_with (go_at_call 15;refine (HI.out _ hb).mono ?_;rintro e w5 ⟨d5,rfl,hb5,hd5,he5⟩;rw [HMC.out];have hd1:(d5:Int)<=20001:=(by omega))
     have Eb:Below w.heap.size w w5:=hb.trans (hb5.mono hb.size)
     have acX:=hbx.below hb5 hbx.lt
     have h1:=HMB.out.1
     have h2:=HMB.out.2.1
     have h3:=HMC.out
     have h4:=HN1.out
     go_roundg f
     case measure=>omega
     case rel=>exact ⟨j+1,C+mc,max D d5,by omega,by go_num,by push_cast;rfl,by omega,congrArg (Value.int .i64) (by omega),by omega,fun h=>by rw [HD1.out,h2,he5 (by omega)],Eb,acX⟩
section
attribute [local go_sem ↓] eO eP eT eu
theorem Ng (n:Nat) (hn:n<=cK) (H:∀m,m<=n->ku m):C0 (n+1) 72 .block:=by
 intro E w l o g r hP hq hr
 simp only [go,mg,dG,eH,dM] at hq
 have hlt:=hP.lt
 have hgt:=hP.toks.lt
 have HQ:=af hq
 have HR:=af hr
 have HN:=af hn
 clear hq hr hn
 go_enter Tryz.func72,Tryz.ntmps72
 go_wp2_with (go_at_call 65;refine (kN E _ _ _ [123] _ _ _ (hP.alloc _) rfl (by simp) HQ.out).mono ?_;rintro e w1 ⟨hg1,⟨a,k,hb,rfl⟩|⟨x,l1,rfl,hq1,hP1⟩⟩;exact iG (Gr.trans aJ hg1) hb;have hG1:=o8 w hg1;have fG:=af hq1;clear hq1;have hZ1:ag w1 w.heap.size _ _:=(ag.new _ _ _).gr hg1 (by omega);have hzl:=hZ1.lt)
 have hs1:=hG1.size
 go_loopg [] n (fun gk wr=>∃(acc:List Tr) (l2:List T) (A:Option Addr) (c:Nat),acc.length+gk<=n/\PS E wr l2 (o+1)/\bnd (go gk (.stats acc) l2 (o+1)) (fun t l=>want [125] l fun _ q=>g (nd 17 x.2 t.kids) q)=r/\Gr (·=E.b) w wr/\ag wr w.heap.size 24 Z7/\ag wr w1.heap.size 24 (N7 17 0 0 ⟨#[]⟩ ⟨#[]⟩ x.2 (.slice A acc.length c))/\aI wr (w1.heap.size+1) (.slice A acc.length c) acc/\w1.heap.size+1<=wr.heap.size)
 case atStart=>exact ⟨[],l1,none,0,by simp,aO,fG.out,aJ,bz,ag.new _ _ _,aI.nil _ _ 0,by simp⟩
 case round=>
  obtain ⟨acc,l2,A,c,hac,hP2,hq2,hG2,hZ2,hB2,hK2,_⟩:=hrel
  have hal:acc.length<=3*cK:=by have:=HN.out;unfold cK at*;omega
  cases gk with
  |zero=>exact absurd (by rw [<-hq2];rfl) HR.out
  |succ f=>
   simp only [go,eD,dM,dG] at hq2
   by_cases hm:mark l2=[125]
   ·rw [if_pos hm] at hq2
    have HM:=af hm
    have fJ:=af hq2
    clear hq2 hm
    go_wp2_with (first
     |(go_at_call 37;refine (aH E _ _ _ hP2).mono ?_;rw [HM.out,show bs [125]=⟨#[125]⟩ from rfl];rintro e w3 ⟨rfl,hb3⟩;have hP3:=hP2.below hb3;have hG3:Gr (·=E.b) w w3:=Gr.trans hG2 (Gr.of_below hb3);have hZ3:=hZ2.aC hb3;have hB3:=hB2.aC hb3;have hK3:=hK2.aC hb3)
     |(go_at_call 66;refine (gY E _ _ _ [125] _ _ _ hP3 rfl (by simp) fJ.out).mono ?_;rintro e w4 ⟨hg4,⟨a,k,hb,rfl⟩|⟨_,l4,rfl,hq4,qm⟩⟩;exact And.intro rfl ⟨Gr.trans hG3 hg4,.inl ⟨_,_,hb,rfl⟩⟩;have hG4:=hG3.trans hg4;have tH:=af hq4;clear hq4;have hZ4:=hZ3.call hg4 (by omega);have hB4:=hB3.call hg4 (by omega);have hK4:=hK3.call hg4 (by omega);obtain ⟨_,z0,z1,z2,z3,z4,z5,z6,zf⟩:=hZ4.av;obtain ⟨_,b0,b1,b2,b3,b4,b5,b6,_⟩:=hB4.av))
    exact aX Tryz.results72 rfl rfl dS ⟨aJ,.inr ⟨17,0,0,[],[],x.2,acc,A,c,l4,rfl,tH.out,aI.mono (lo:=w1.heap.size+1) nS (by omega),hal,aO⟩⟩
   ·rw [if_neg hm] at hq2
    have hmn:=bC hm
    have fJ:=af hq2
    clear hq2 hm
    go_wp2_with (go_at_call 37;refine (aH E _ _ _ hP2).mono ?_;rintro e w3 ⟨rfl,hb3⟩;have hP3:=hP2.below hb3;have hG3:Gr (·=E.b) w w3:=Gr.trans hG2 (Gr.of_below hb3);have hZ3:=hZ2.aC hb3;have hB3:=hB2.aC hb3;have hK3:=hK2.aC hb3;have anh:=hP3.toks.lt)
    have hf3:=H f (by omega)
    obtain ⟨bl,_,_,_,_,_,_,b6,bf⟩:=hB3.av
    refine nX E.b (w1.heap.size+1) w1.heap.size 93 #[.pointer (some ⟨E.b,0,none⟩)] (oO r) (wG E (o+1) (fun t l=>bnd (go f (.stats (acc ++ [t])) l (o+1)) fun t l=>want [125] l fun _ q=>g (nd 17 x.2 t.kids) q) r) (hK3.x (by omega)) b6 (bf 6) (by omega) (by omega) (by omega) (by omega) hal (aZ E _ _ _ r (by omega) (by omega)) (aZ E _ _ _ r (by omega) (by omega)) ((hf3.stat E _ l2 (o+1) _ r hP3.drew fJ.out HR.out).mono fun e w' h=>tells h) ?_ ?_
    ·rintro a w' c had ⟨at_,k,hb,rfl⟩ hg
     exact And.intro had ⟨hG3.trans hg,.inl ⟨_,_,hb,rfl⟩⟩
    ·rintro vals w' A2 c2 t ⟨l4,hq4,qm⟩ hK4 hg4 _ _
     go_wp2
     go_roundg f
     case measure=>omega
     case rel=>exact ⟨acc ++ [t],l4,A2,c2,by simp;omega,aO,hq4,Gr.setCell (o7 hG3 hg4 (by omega)) (.inl (by show w.heap.size<=w1.heap.size;omega)) _,ag.far (hZ3.wr hg4 (by omega) (.inl (by omega))) (by show w.heap.size≠w1.heap.size;omega) _,by rw [List.length_append];exact (hB3.wr hg4 (by omega) (.inr rfl)).jC _,by rw [List.length_append];exact hK4.kid.setCell (by show w1.heap.size < _;omega) _,by have:=hg4.size;simp;omega⟩
theorem Qp (n:Nat) (hn:n<=cK) (H:∀m,m<=n->ku m):C0 (n+1) 62 .expr:=by
 intro E w l o g r hP hq hr
 simp only [go] at hq
 have hlt:=hP.lt
 have hgt:=hP.toks.lt
 have HR:=af hr
 have Hn:=H n (Nat.le_refl _)
 clear hr
 have fZ:=af hq
 clear hq
 go_enter Tryz.func62,Tryz.ntmps62
 go_wp2_with (first
  |(go_at_call 89;refine (Hn.binary 1 (by omega) (by omega) E _ l o _ r aO fZ.out HR.out).mono ?_;rintro e w1 ⟨hg1,⟨a,k,hb,rfl⟩|⟨k1,Ap,m1,p1,t1,a1,aU,A1,c1,l1,rfl,hq1,qK,hn1,hP1⟩⟩;exact iG (Gr.trans aJ hg1) hb;have hG1:=o8 w hg1;have fG:=af hq1;clear hq1;have az:ag w1 w.heap.size 24 Z7:=bU hg1;obtain ⟨_,adk,adl,adm,adn,ado,adp,adq,adr⟩:=az.av;have qK:=aI.mono (lo':=w.heap.size+1) qK (by simp)))
 exact aX Tryz.results62 rfl rfl dS ⟨aJ,.inr ⟨k1,Ap,m1,p1,t1,a1,aU,A1,c1,l1,rfl,fG.out,aI.mono (lo:=w.heap.size+1) nS (by omega),hn1,aO⟩⟩
theorem Qq (n:Nat) (hn:n<=cK) (H:∀m,m<=n->ku m):C0 (n+1) 71 .param:=by
 intro E w l o g r hP hq hr
 simp only [go] at hq
 have hlt:=hP.lt
 have hgt:=hP.toks.lt
 have HR:=af hr
 have Hn:=H n (Nat.le_refl _)
 clear hr
 have fZ:=af hq
 clear hq
 go_enter Tryz.func71,Tryz.ntmps71
 go_wp2_with (first
  |(go_at_call 61;refine (Hn.named 12 E _ l o _ r aO fZ.out HR.out).mono ?_;rintro e w1 ⟨hg1,⟨a,k,hb,rfl⟩|⟨k1,Ap,m1,p1,t1,a1,aU,A1,c1,l1,rfl,hq1,qK,hn1,hP1⟩⟩;exact iG (Gr.trans aJ hg1) hb;have hG1:=o8 w hg1;have fG:=af hq1;clear hq1;have az:ag w1 w.heap.size 24 Z7:=bU hg1;obtain ⟨_,adk,adl,adm,adn,ado,adp,adq,adr⟩:=az.av;have qK:=aI.mono (lo':=w.heap.size+1) qK (by simp)))
 exact aX Tryz.results71 rfl rfl dS ⟨aJ,.inr ⟨k1,Ap,m1,p1,t1,a1,aU,A1,c1,l1,rfl,fG.out,aI.mono (lo:=w.heap.size+1) nS (by omega),hn1,aO⟩⟩
theorem Gs (n:Nat) (hn:n<=cK) (H:∀m,m<=n->ku m):C0 (n+1) 131 .otherwise:=by
 intro E w l o g r hP hq hr
 simp only [go,eD] at hq
 have hlt:=hP.lt
 have hgt:=hP.toks.lt
 have hne:=hP.ne
 have HR:=af hr
 have Hn:=H n (Nat.le_refl _)
 clear hr
 by_cases hm:mark l=[105,102]
 ·rw [if_pos hm] at hq
  have HM:=af hm
  have fZ:=af hq
  clear hq hm
  go_enter Tryz.func131,Tryz.ntmps131
  go_wp2_with (first
   |(go_at_call 37;refine (aH E _ l o aO).mono ?_;rw [HM.out,show bs [105,102]=⟨#[105,102]⟩ from rfl];rintro e w1 ⟨rfl,hg1⟩;have hP1:PS E w1 l o:=PS.below aO hg1;have hG1:=gX E.b w hg1;have hs1:=hg1.size;(try simp at hs1);have az:ag w1 w.heap.size 24 Z7:=ag.aC bz hg1;have mo:=az.lt)
   |(go_at_call 107;refine (Hn.branch E _ l o _ r aO fZ.out HR.out).mono ?_;rintro e w2 ⟨hg2,⟨a,k,hb,rfl⟩|⟨k2,kJ,m2,p2,t2,a2,bN,A2,c2,l2,rfl,hq2,bI,hn2,hP2⟩⟩;exact iG (Gr.trans aJ hg2) hb;have hG2:=bQ hG1 hg2;have fJ:=af hq2;clear hq2;have ax:=aD az hg2;obtain ⟨_,lJ,lK,lM,lN,lQ,lS,lT,lU⟩:=ax.av;have bI:=aI.mono (lo':=w1.heap.size+0) bI (by simp)))
  exact aX Tryz.results131 rfl rfl dS ⟨aJ,.inr ⟨k2,kJ,m2,p2,t2,a2,bN,A2,c2,l2,rfl,fJ.out,aI.mono (lo:=w1.heap.size+0) nS (by omega),hn2,aO⟩⟩
 rw [if_neg hm] at hq
 have YO:=bC hm
 clear hm
 have fZ:=af hq
 clear hq
 go_enter Tryz.func131,Tryz.ntmps131
 go_wp2_with (first
  |(go_at_call 37;refine (aH E _ l o aO).mono ?_;rintro e w1 ⟨rfl,hg1⟩;have hP1:PS E w1 l o:=PS.below aO hg1;have hG1:=gX E.b w hg1;have hs1:=hg1.size;(try simp at hs1);have az:ag w1 w.heap.size 24 Z7:=ag.aC bz hg1;have mo:=az.lt)
  |(go_at_call 72;refine (Hn.block E _ l o _ r aO fZ.out HR.out).mono ?_;rintro e w2 ⟨hg2,⟨a,k,hb,rfl⟩|⟨k2,kJ,m2,p2,t2,a2,bN,A2,c2,l2,rfl,hq2,bI,hn2,hP2⟩⟩;exact iG (Gr.trans aJ hg2) hb;have hG2:=bQ hG1 hg2;have fJ:=af hq2;clear hq2;have ax:=aD az hg2;obtain ⟨_,lJ,lK,lM,lN,lQ,lS,lT,lU⟩:=ax.av;have bI:=aI.mono (lo':=w1.heap.size+0) bI (by simp)))
 exact aX Tryz.results131 rfl rfl dS ⟨aJ,.inr ⟨k2,kJ,m2,p2,t2,a2,bN,A2,c2,l2,rfl,fJ.out,aI.mono (lo:=w1.heap.size+0) nS (by omega),hn2,aO⟩⟩
theorem Qr (n:Nat) (hn:n<=cK) (H:∀m,m<=n->ku m):C0 (n+1) 22 .decl:=by
 intro E w l o g r hP hq hr
 simp only [go,eD,sV] at hq
 have hlt:=hP.lt
 have hgt:=hP.toks.lt
 have hne:=hP.ne
 have HR:=af hr
 have Hn:=H n (Nat.le_refl _)
 clear hr
 by_cases hm:mark l=[99,111,110,115,116]
 ·rw [if_pos hm] at hq
  have HM:=af hm
  have fZ:=af hq
  clear hq hm
  go_enter Tryz.func22,Tryz.ntmps22
  go_wp2_with (first
   |(go_at_call 37;refine (aH E _ l o aO).mono ?_;rw [HM.out,show bs [99,111,110,115,116]=⟨#[99,111,110,115,116]⟩ from rfl];rintro e w1 ⟨rfl,hg1⟩;have hP1:PS E w1 l o:=PS.below aO hg1;have hG1:=gX E.b w hg1;have hs1:=hg1.size;(try simp at hs1);have az:ag w1 w.heap.size 24 Z7:=ag.aC bz hg1;have mo:=az.lt)
   |(go_at_call 41;refine (Hn.constant E _ l o _ r aO fZ.out HR.out).mono ?_;rintro e w2 ⟨hg2,⟨a,k,hb,rfl⟩|⟨k2,kJ,m2,p2,t2,a2,bN,A2,c2,l2,rfl,hq2,bI,hn2,hP2⟩⟩;exact iG (Gr.trans aJ hg2) hb;have hG2:=bQ hG1 hg2;have fJ:=af hq2;clear hq2;have ax:=aD az hg2;obtain ⟨_,lJ,lK,lM,lN,lQ,lS,lT,lU⟩:=ax.av;have bI:=aI.mono (lo':=w1.heap.size+0) bI (by simp)))
  exact aX Tryz.results22 rfl rfl dS ⟨aJ,.inr ⟨k2,kJ,m2,p2,t2,a2,bN,A2,c2,l2,rfl,fJ.out,aI.mono (lo:=w1.heap.size+0) nS (by omega),hn2,aO⟩⟩
 rw [if_neg hm] at hq
 have Yu:=bC hm
 clear hm
 by_cases hm:mark l=[118,97,114]
 ·rw [if_pos hm] at hq
  have HM:=af hm
  have fZ:=af hq
  clear hq hm
  go_enter Tryz.func22,Tryz.ntmps22
  go_wp2_with (first
   |(go_at_call 37;refine (aH E _ l o aO).mono ?_;rw [HM.out,show bs [118,97,114]=⟨#[118,97,114]⟩ from rfl];rintro e w1 ⟨rfl,hg1⟩;have hP1:PS E w1 l o:=PS.below aO hg1;have hG1:=gX E.b w hg1;have hs1:=hg1.size;(try simp at hs1);have az:ag w1 w.heap.size 24 Z7:=ag.aC bz hg1;have mo:=az.lt)
   |(go_at_call 42;refine (Hn.dh E _ l o _ r aO fZ.out HR.out).mono ?_;rintro e w2 ⟨hg2,⟨a,k,hb,rfl⟩|⟨k2,kJ,m2,p2,t2,a2,bN,A2,c2,l2,rfl,hq2,bI,hn2,hP2⟩⟩;exact iG (Gr.trans aJ hg2) hb;have hG2:=bQ hG1 hg2;have fJ:=af hq2;clear hq2;have ax:=aD az hg2;obtain ⟨_,lJ,lK,lM,lN,lQ,lS,lT,lU⟩:=ax.av;have bI:=aI.mono (lo':=w1.heap.size+0) bI (by simp)))
  exact aX Tryz.results22 rfl rfl dS ⟨aJ,.inr ⟨k2,kJ,m2,p2,t2,a2,bN,A2,c2,l2,rfl,fJ.out,aI.mono (lo:=w1.heap.size+0) nS (by omega),hn2,aO⟩⟩
 rw [if_neg hm] at hq
 have Sr:=bC hm
 clear hm
 by_cases hm:mark l=[116,121,112,101]
 ·rw [if_pos hm] at hq
  have HM:=af hm
  have fZ:=af hq
  clear hq hm
  go_enter Tryz.func22,Tryz.ntmps22
  go_wp2_with (first
   |(go_at_call 37;refine (aH E _ l o aO).mono ?_;rw [HM.out,show bs [116,121,112,101]=⟨#[116,121,112,101]⟩ from rfl];rintro e w1 ⟨rfl,hg1⟩;have hP1:PS E w1 l o:=PS.below aO hg1;have hG1:=gX E.b w hg1;have hs1:=hg1.size;(try simp at hs1);have az:ag w1 w.heap.size 24 Z7:=ag.aC bz hg1;have mo:=az.lt)
   |(go_at_call 43;refine (Hn.kT E _ l o _ r aO fZ.out HR.out).mono ?_;rintro e w2 ⟨hg2,⟨a,k,hb,rfl⟩|⟨k2,kJ,m2,p2,t2,a2,bN,A2,c2,l2,rfl,hq2,bI,hn2,hP2⟩⟩;exact iG (Gr.trans aJ hg2) hb;have hG2:=bQ hG1 hg2;have fJ:=af hq2;clear hq2;have ax:=aD az hg2;obtain ⟨_,lJ,lK,lM,lN,lQ,lS,lT,lU⟩:=ax.av;have bI:=aI.mono (lo':=w1.heap.size+0) bI (by simp)))
  exact aX Tryz.results22 rfl rfl dS ⟨aJ,.inr ⟨k2,kJ,m2,p2,t2,a2,bN,A2,c2,l2,rfl,fJ.out,aI.mono (lo:=w1.heap.size+0) nS (by omega),hn2,aO⟩⟩
 rw [if_neg hm] at hq
 have abn:=bC hm
 clear hm
 by_cases hm:mark l=[102,117,110,99]
 ·rw [if_pos hm] at hq
  have HM:=af hm
  have fZ:=af hq
  clear hq hm
  go_enter Tryz.func22,Tryz.ntmps22
  go_wp2_with (first
   |(go_at_call 37;refine (aH E _ l o aO).mono ?_;rw [HM.out,show bs [102,117,110,99]=⟨#[102,117,110,99]⟩ from rfl];rintro e w1 ⟨rfl,hg1⟩;have hP1:PS E w1 l o:=PS.below aO hg1;have hG1:=gX E.b w hg1;have hs1:=hg1.size;(try simp at hs1);have az:ag w1 w.heap.size 24 Z7:=ag.aC bz hg1;have mo:=az.lt)
   |(go_at_call 44;refine (Hn.kU E _ l o _ r aO fZ.out HR.out).mono ?_;rintro e w2 ⟨hg2,⟨a,k,hb,rfl⟩|⟨k2,kJ,m2,p2,t2,a2,bN,A2,c2,l2,rfl,hq2,bI,hn2,hP2⟩⟩;exact iG (Gr.trans aJ hg2) hb;have hG2:=bQ hG1 hg2;have fJ:=af hq2;clear hq2;have ax:=aD az hg2;obtain ⟨_,lJ,lK,lM,lN,lQ,lS,lT,lU⟩:=ax.av;have bI:=aI.mono (lo':=w1.heap.size+0) bI (by simp)))
  exact aX Tryz.results22 rfl rfl dS ⟨aJ,.inr ⟨k2,kJ,m2,p2,t2,a2,bN,A2,c2,l2,rfl,fJ.out,aI.mono (lo:=w1.heap.size+0) nS (by omega),hn2,aO⟩⟩
 rw [if_neg hm] at hq
 have C8:=bC hm
 clear hm
 obtain ⟨x,t,rfl⟩:=hP.cons
 rw [rF] at hq
 have fZ:=af hq
 clear hq
 go_enter Tryz.func22,Tryz.ntmps22
 go_wp2_with (first
  |(go_at_call 37;refine (aH E _ (x :: t) o aO).mono ?_;rintro e w1 ⟨rfl,hg1⟩;have hP1:PS E w1 (x :: t) o:=PS.below aO hg1;have hG1:=gX E.b w hg1;have az:ag w1 w.heap.size 24 Z7:=ag.aC bz hg1)
  |(go_at_call 38;refine (sW E _ x t o aO).mono ?_;rintro e w9 ⟨rfl,gP⟩))
 refine And.intro rfl ?_
 exact ⟨Gr.trans hG1 (Gr.of_below gP),.inl ⟨_,_,fZ.out.symm,rfl⟩⟩
theorem Qs (n:Nat) (hn:n<=cK) (H:∀m,m<=n->ku m):C0 (n+1) 63 .field:=by
 intro E w l o g r hP hq hr
 simp only [go,eH,dG,dM] at hq
 have hlt:=hP.lt
 have hgt:=hP.toks.lt
 have HR:=af hr
 have Hn:=H n (Nat.le_refl _)
 clear hr
 have fZ:=af hq
 clear hq
 go_enter Tryz.func63,Tryz.ntmps63
 go_wp2_with (first
  |(go_at_call 61;refine (Hn.named 6 E _ l o _ r aO fZ.out HR.out).mono ?_;rintro e w1 ⟨hg1,⟨a,k,hb,rfl⟩|⟨k1,Ap,m1,p1,t1,a1,aU,A1,c1,l1,rfl,hq1,qK,hn1,hP1⟩⟩;exact iG (Gr.trans aJ hg1) hb;have hG1:=o8 w hg1;have fG:=af hq1;clear hq1;have kW:=hP1.lt;have az:ag w1 w.heap.size 24 Z7:=bU hg1;have qK:=aI.mono (lo':=w.heap.size+1) qK (by simp))
  |(go_at_call 18;refine (bT E _ l1 o [59] _ _ _ aO rfl (by simp) fG.out).mono ?_;rintro e w2 ⟨hg2,⟨a,k,hb,rfl⟩|⟨x2,l2,rfl,hq2,hP2⟩⟩;exact iG (Gr.trans aJ hg2) hb;have hG2:=bQ hG1 hg2;have fJ:=af hq2;clear hq2;have ax:=aD az hg2;obtain ⟨_,lJ,lK,lM,lN,lQ,lS,lT,lU⟩:=ax.av;have bq:ag w2 w1.heap.size 24 (N7 k1 Ap m1 (bs p1) (bs t1) a1 (.slice A1 aU.length c1)):=bU hg2;obtain ⟨_,YL,abF,abG,abH,U8,YM,sG,_⟩:=bq.av;have Z0:aI w2 (w.heap.size+1) (.slice A1 aU.length c1) aU:=aI.call (b:=E.b) nS hg2 (by omega)))
 exact aX Tryz.results63 rfl rfl dS ⟨aJ,.inr ⟨k1,Ap,m1,p1,t1,a1,aU,A1,c1,l2,rfl,fJ.out,aI.mono (lo:=w.heap.size+1) nS (by omega),hn1,aO⟩⟩
theorem Qt (n:Nat) (hn:n<=cK) (H:∀m,m<=n->ku m) (kk:Int):C1 (n+1) 61 kk (.named kk):=by
 intro E w l o g r hP hq hr
 simp only [go,jr,dG,dM] at hq
 have hlt:=hP.lt
 have hgt:=hP.toks.lt
 have HR:=af hr
 have Hn:=H n (Nat.le_refl _)
 clear hr
 have fZ:=af hq
 clear hq
 go_enter Tryz.func61,Tryz.ntmps61
 go_wp2_with (first
  |(go_at_call 19;refine (jd E _ l o _ _ aO fZ.out).mono ?_;rintro e w1 ⟨hg1,⟨a,k,hb,rfl⟩|⟨x1,l1,rfl,hq1,hP1⟩⟩;exact iG (Gr.trans aJ hg1) hb;have hG1:=o8 w hg1;have fG:=af hq1;clear hq1;have kW:=hP1.lt;have hs1:=hg1.size;(try simp at hs1);have az:ag w1 w.heap.size 24 Z7:=bU hg1))
 refine wp_region_held_drew (S:=fun W=>ag W w1.heap.size 53 (T4 x1.1.k (bs x1.1.t) x1.1.n x1.2)) (by kernel_rfl) bz (fun hS0=>?_)
 refine oU 0 hS0 ?_ (he:=fun w' hS=>by ((try skip);(try obtain ⟨_,s0,s1,s2,s3,s4,s5,s6,sf⟩:=hS.av);unfold execOp;go_simp;first|done|exact rfl))
 refine oU 1 hS0 ?_ (he:=fun w' hS=>by ((try skip);(try obtain ⟨_,s0,s1,s2,s3,s4,s5,s6,sf⟩:=hS.av);unfold execOp;go_simp;first|done|exact rfl))
 refine oU 2 hS0 ?_ (he:=fun w' hS=>by ((try obtain ⟨_,_,s1,_⟩:=hS.jX);(try obtain ⟨_,s0,s1,s2,s3,s4,s5,s6,sf⟩:=hS.av);unfold execOp;go_simp;first|done|exact rfl))
 refine oU 3 hS0 ?_ (he:=fun w' hS=>by ((try skip);(try obtain ⟨_,s0,s1,s2,s3,s4,s5,s6,sf⟩:=hS.av);unfold execOp;go_simp;first|done|exact rfl))
 refine oU 4 hS0 ?_ (he:=fun w' hS=>by ((try obtain ⟨_,_,_,_,s3,_⟩:=hS.jX);(try obtain ⟨_,s0,s1,s2,s3,s4,s5,s6,sf⟩:=hS.av);unfold execOp;go_simp;first|done|exact rfl))
 refine oU 5 hS0 ?_ (he:=fun w' hS=>by ((try skip);(try obtain ⟨_,s0,s1,s2,s3,s4,s5,s6,sf⟩:=hS.av);unfold execOp;go_simp;first|done|exact rfl))
 refine oI 6 rfl (fP (args:=#[.pointer (some ⟨E.b,0,none⟩)]) (f:=88) (by unfold execOp;go_simp) ((Hn.typeOf E _ l1 o _ r (by exact aO) fG.out HR.out).mono ?_))
 rintro e w2 ⟨hg2,⟨a,k,hb,rfl⟩|⟨k2,kJ,m2,p2,t2,a2,bN,A2,c2,l2,rfl,hq2,hk2,_,hP2⟩⟩
 ·exact iG (Gr.trans aJ hg2) hb
 have hx2:ag w2 w1.heap.size 53 (T4 x1.1.k (bs x1.1.t) x1.1.n x1.2):=bU hg2
 refine And.intro hx2 ?_
 simp only [Act.put,gA,gB,gC,gD,gE,gF]
 have hs2:w1.heap.size+1<=w2.heap.size:=by have:=hg2.size;simpa using this
 have ac4:aI w2 (w1.heap.size+1) (.slice A2 bN.length c2) bN:=aI.mono hk2 (by simp)
 have hz2:=aD az hg2
 have hG2:=bQ hG1 hg2
 have wW:=aI.lI (k:=k2) (op:=kJ) (m:=m2) (p:=p2) (t:=t2) (a:=a2) ac4 hs2
 refine oI 7 rfl (aY (Ih _ _ _ _ _ _ _ _ _ _ _ _ _ A2 bN.length c2 rfl) (And.intro bz ?_))
 simp only [Act.put,gA,gB,gC,gD,gE,gF]
 refine oI 8 rfl (sF (.agg #[.int .i64 kk,.int .i64 0,.int .i64 0,.string ⟨#[]⟩,.string (bs x1.1.t),.int .i64 x1.2,.slice (some ⟨w2.heap.size,0,none⟩) 1 1]) (by unfold execOp;go_simp) (And.intro bz ?_))
 simp only [Act.put,gA,gB,gC,gD,gE,gF]
 refine oI 9 rfl (Ci _ _ kk 0 0 [] x1.1.t x1.2 1 1 _ rfl rfl (ag.alloc hz2 _) fun w3 hz3 hg3=>And.intro (ag.gr bz hg3 (by omega)) ?_)
 refine eZ ?_
 simp only [Act.put,gA,gB,gC,gD,gE,gF]
 go_wp2
 exact aX Tryz.results61 rfl rfl hz3 ⟨hg3.one (hG2.alloc _) (Nat.le_refl _),.inr ⟨kk,0,0,[],x1.1.t,x1.2,[.mk k2 kJ m2 p2 t2 a2 bN],_,1,l2,rfl,hq2,aI.mono (wW.one hg3 (by omega)) (by omega),by simp [cK],(hP2.alloc _).one hg3 (by omega) (by omega)⟩⟩
theorem Ht (n:Nat) (hn:n<=cK) (H:∀m,m<=n->ku m):C0 (n+1) 110 .nD:=by
 intro E w l o g r hP hq hr
 simp only [go,eH,fC,eD,dG,dM] at hq
 have hlt:=hP.lt
 have hgt:=hP.toks.lt
 have HR:=af hr
 have Hn:=H n (Nat.le_refl _)
 clear hr
 have fZ:=af hq
 clear hq
 go_enter Tryz.func110,Tryz.ntmps110
 go_wp2_with (first
  |(go_at_call 18;refine (bT E _ l o [114,101,116,117,114,110] _ _ _ aO rfl (by simp) fZ.out).mono ?_;rintro e w1 ⟨hg1,⟨a,k,hb,rfl⟩|⟨x1,l1,rfl,hq1,hP1⟩⟩;exact iG (Gr.trans aJ hg1) hb;have hG1:=o8 w hg1;have fG:=af hq1;clear hq1;have kW:=hP1.lt;have oP:=hP1.toks.lt;have hs1:=hg1.size;(try simp at hs1);have az:ag w1 w.heap.size 24 Z7:=bU hg1))
 by_cases hm:mark l1=[59]
 ·have Qu:=fG.out
  rw [if_pos hm] at Qu
  obtain ⟨y,_,hly⟩:=hP1.cons
  have fG:Hid (want [59] l1 (fun _ q=>g (nd 25 x1.2 []) q)=r):=af (by rw [<-Qu,want,if_pos hm])
  have HM:=af hm
  clear Qu hm hly
  go_wp2_with (first
   |(go_at_call 37;refine (aH E _ l1 o aO).mono ?_;rw [HM.out,show bs [59]=⟨#[59]⟩ from rfl];rintro e w2 ⟨rfl,hg2⟩;have hP2:PS E w2 l1 o:=PS.below aO hg2;have hG2:=aL hG1 hg2;have ax:=bV az hg2;have bq:ag w2 w1.heap.size 24 (N7 25 0 0 ⟨#[]⟩ ⟨#[]⟩ x1.2 (.slice none 0 0)):=ag.aC bz hg2;have kY:aN w2 (w1.heap.size+1) w1.heap.size (.slice none 0 0) ([]:List Tr):=aN.aC oZ hg2)
   |(go_at_call 18;refine (bT E _ l1 o [59] _ _ _ aO rfl (by simp) fG.out).mono ?_;rintro e w3 ⟨hg3,⟨a,k,hb,rfl⟩|⟨x3,l3,rfl,hq3,hP3⟩⟩;exact iG (Gr.trans aJ hg3) hb;have hG3:=bQ hG2 hg3;have kE:=af hq3;clear hq3;have aF:=aD ax hg3;obtain ⟨_,vM,wQ,wR,wS,wT,wU,wV,vN⟩:=aF.av;have aM:=aD bq hg3;obtain ⟨_,yP,Jr,EL,Jp,GL,GM,sH,_⟩:=aM.av;have kX:aN w3 (w1.heap.size+1) w1.heap.size (.slice none 0 0) ([]:List Tr):=rO hg3))
  exact aX Tryz.results110 rfl rfl dS ⟨aJ,.inr ⟨25,0,0,[],[],x1.2,[],none,0,l3,rfl,kE.out,aI.mono (lo:=w1.heap.size+1) (v:=.slice none 0 0) (ks:=([]:List Tr)) (aN.kid (h:=w1.heap.size) oZ) (by omega),(by simp [cK]),aO⟩⟩
 ·have Qu:=fG.out
  rw [if_neg hm] at Qu
  have fG:=af Qu
  have hmn:=bC hm
  clear Qu hm
  go_wp2_with (first
   |(go_at_call 37;refine (aH E _ l1 o aO).mono ?_;rintro e w2 ⟨rfl,hg2⟩;have hP2:PS E w2 l1 o:=PS.below aO hg2;have hG2:=aL hG1 hg2;have ou:=hP2.lt;have ql:=hP2.toks.lt;have hs2:=hg2.size;(try simp at hs2);have ax:=bV az hg2;have bq:ag w2 w1.heap.size 24 (N7 25 0 0 ⟨#[]⟩ ⟨#[]⟩ x1.2 (.slice none 0 0)):=ag.aC bz hg2;have kY:aN w2 (w1.heap.size+1) w1.heap.size (.slice none 0 0) ([]:List Tr):=aN.aC oZ hg2))
  obtain ⟨_,_,_,_,_,_,_,sG,uE⟩:=bq.av
  refine nX E.b (w1.heap.size+1) w1.heap.size 62 #[.pointer (some ⟨E.b,0,none⟩)] _ _ kY sG (uE 6) (by omega) (by omega) (by omega) (by omega) (by simp [cK]) (aZ E _ o _ r (by omega) (by omega)) (aZ E _ o _ r (by omega) (by omega)) ((Hn.expr E _ l1 o _ r hP2.drew fG.out HR.out).mono fun e w' h=>tells h) ?_ ?_
  ·rintro a w' c had ⟨at_,k,hb,rfl⟩ hg
   exact And.intro had ⟨hG2.trans hg,.inl ⟨_,_,hb,rfl⟩⟩
  rintro vals w' A3 c3 t3 ⟨l3,hq3,yO⟩ hKx hgx eB hgo
  obtain ⟨w3,hW⟩:=uj (w'.setCell ⟨w1.heap.size,6,none⟩ (.slice A3 (([]:List Tr).length+1) c3))
  have hP3:PS E w3 l3 o:=by rw [hW];exact aO
  have hsx:=hgx.size
  have hG3:Gr (·=E.b) w w3:=by rw [hW];exact Gr.setCell (o7 hG2 hgx (by omega)) (.inl (by first|(simp;done)|(simp;omega))) _
  have aF:ag w3 w.heap.size 24 Z7:=by rw [hW];exact ag.far (ag.wr ax hgx (by omega) (.inl (by omega))) (by first|(simp;done)|(simp;omega)) _
  have aM:ag w3 w1.heap.size 24 (N7 25 0 0 ⟨#[]⟩ ⟨#[]⟩ x1.2 (.slice A3 (([]:List Tr).length+1) c3)):=by rw [hW];exact ag.jC (ag.wr bq hgx (by omega) (.inr rfl)) _
  have kX:aN w3 (w1.heap.size+1) w1.heap.size (.slice A3 (([]:List Tr).length+1) c3) (([]:List Tr) ++ [t3]):=by rw [hW];exact hKx.setCell (.inr rfl) _
  rw [<-hW]
  clear hW yO hKx hgx eB hgo hsx
  have kE:=af hq3
  clear hq3
  go_wp2_with (first
   |(go_at_call 18;refine (bT E _ l3 o [59] _ _ _ aO rfl (by simp) kE.out).mono ?_;rintro e w4 ⟨hg4,⟨a,k,hb,rfl⟩|⟨x4,l4,rfl,hq4,qm⟩⟩;exact iG (Gr.trans aJ hg4) hb;have hG4:=bQ hG3 hg4;have tH:=af hq4;clear hq4;have aK:=aD aF hg4;obtain ⟨_,wO,xC,xD,xE,xG,xH,xI,wP⟩:=aK.av;have aW:=aD aM hg4;obtain ⟨_,Ck,Dp,EB,EC,ED,EE,xJ,_⟩:=aW.av;have qo:aN w4 (w1.heap.size+1) w1.heap.size (.slice A3 (([]:List Tr).length+1) c3) (([]:List Tr) ++ [t3]):=rO hg4))
  exact aX Tryz.results110 rfl rfl dS ⟨aJ,.inr ⟨25,0,0,[],[],x1.2,(([]:List Tr) ++ [t3]),A3,c3,l4,rfl,tH.out,aI.mono (lo:=w1.heap.size+1) (v:=.slice A3 (([]:List Tr).length+1) c3) (ks:=(([]:List Tr) ++ [t3])) (aN.kid (h:=w1.heap.size) oZ) (by omega),(by simp [cK]),aO⟩⟩
theorem Uq (n:Nat) (hn:n<=cK) (H:∀m,m<=n->ku m):C0 (n+1) 108 .loop:=by
 intro E w l o g r hP hq hr
 simp only [go,eH,eD,dG,dM] at hq
 have hlt:=hP.lt
 have hgt:=hP.toks.lt
 have HR:=af hr
 have Hn:=H n (Nat.le_refl _)
 clear hr
 have fZ:=af hq
 clear hq
 go_enter Tryz.func108,Tryz.ntmps108
 go_wp2_with (first
  |(go_at_call 18;refine (bT E _ l o [102,111,114] _ _ _ aO rfl (by simp) fZ.out).mono ?_;rintro e w1 ⟨hg1,⟨a,k,hb,rfl⟩|⟨x1,l1,rfl,hq1,hP1⟩⟩;exact iG (Gr.trans aJ hg1) hb;have hG1:=o8 w hg1;have fG:=af hq1;clear hq1;have kW:=hP1.lt;have oP:=hP1.toks.lt;have hs1:=hg1.size;(try simp at hs1);have az:ag w1 w.heap.size 24 Z7:=bU hg1))
 by_cases hm:mark l1=[123]
 ·skip
  have eY:=fG.out
  rw [if_pos hm] at eY
  have HM:=af hm
  clear fG hm
  have fG:=af eY
  clear eY
  go_wp2_with (first
   |(go_at_call 37;refine (aH E _ l1 o aO).mono ?_;rw [HM.out,show bs [123]=⟨#[123]⟩ from rfl];rintro e w2 ⟨rfl,hg2⟩;have hP2:PS E w2 l1 o:=PS.below aO hg2;have hG2:=aL hG1 hg2;have ou:=hP2.lt;have ql:=hP2.toks.lt;have hs2:=hg2.size;(try simp at hs2);have ax:=bV az hg2;have bq:ag w2 w1.heap.size 24 (N7 22 0 0 ⟨#[]⟩ ⟨#[]⟩ x1.2 (.slice none 0 0)):=ag.aC bz hg2;have kY:aN w2 (w1.heap.size+1) w1.heap.size (.slice none 0 0) ([]:List Tr):=aN.aC oZ hg2))
  obtain ⟨_,_,_,_,_,_,_,sG,uE⟩:=bq.av
  refine nX E.b (w1.heap.size+1) w1.heap.size 72 #[.pointer (some ⟨E.b,0,none⟩)] _ _ kY sG (uE 6) (by omega) (by omega) (by omega) (by omega) (by simp [cK]) (aZ E _ o _ r (by omega) (by omega)) (aZ E _ o _ r (by omega) (by omega)) ((Hn.block E _ l1 o _ r hP2.drew fG.out HR.out).mono fun e w' h=>tells h) ?_ ?_
  ·rintro a w' c had ⟨at_,k,hb,rfl⟩ hg
   exact And.intro had ⟨hG2.trans hg,.inl ⟨_,_,hb,rfl⟩⟩
  rintro vals w' A3 c3 u3 ⟨l3,hq3,yO⟩ hKx hgx eB hgo
  obtain ⟨w3,hW⟩:=uj (w'.setCell ⟨w1.heap.size,6,none⟩ (.slice A3 (([]:List Tr).length+1) c3))
  have hP3:PS E w3 l3 o:=by rw [hW];exact aO
  have hsx:=hgx.size
  have hG3:Gr (·=E.b) w w3:=by rw [hW];exact Gr.setCell (o7 hG2 hgx (by omega)) (.inl (by first|(simp;done)|(simp;omega))) _
  have aF:ag w3 w.heap.size 24 Z7:=by rw [hW];exact ag.far (ag.wr ax hgx (by omega) (.inl (by omega))) (by first|(simp;done)|(simp;omega)) _
  have aM:ag w3 w1.heap.size 24 (N7 22 0 0 ⟨#[]⟩ ⟨#[]⟩ x1.2 (.slice A3 (([]:List Tr).length+1) c3)):=by rw [hW];exact ag.jC (ag.wr bq hgx (by omega) (.inr rfl)) _
  have kX:aN w3 (w1.heap.size+1) w1.heap.size (.slice A3 (([]:List Tr).length+1) c3) (([]:List Tr) ++ [u3]):=by rw [hW];exact hKx.setCell (.inr rfl) _
  rw [<-hW]
  clear hW yO hKx hgx eB hgo hsx
  have kE:=af hq3
  clear hq3
  obtain ⟨_,yP,Jr,EL,Jp,GL,GM,sH,_⟩:=aM.av
  obtain ⟨_,vM,wQ,wR,wS,wT,wU,wV,vN⟩:=aF.av
  go_wp2
  exact aX Tryz.results108 rfl rfl dS ⟨aJ,.inr ⟨22,0,0,[],[],x1.2,(([]:List Tr) ++ [u3]),A3,c3,l3,rfl,kE.out,aI.mono (lo:=w1.heap.size+1) (v:=.slice A3 (([]:List Tr).length+1) c3) (ks:=(([]:List Tr) ++ [u3])) (aN.kid (h:=w1.heap.size) oZ) (by omega),(by simp [cK]),aO⟩⟩
 ·skip
  have eY:=fG.out
  rw [if_neg hm] at eY
  have adC:=bC hm
  clear fG hm
  have fG:=af eY
  clear eY
  go_wp2_with (first
   |(go_at_call 37;refine (aH E _ l1 o aO).mono ?_;rintro e w2 ⟨rfl,hg2⟩;have hP2:PS E w2 l1 o:=PS.below aO hg2;have hG2:=aL hG1 hg2;have ou:=hP2.lt;have ql:=hP2.toks.lt;have hs2:=hg2.size;(try simp at hs2);have ax:=bV az hg2;have bq:ag w2 w1.heap.size 24 (N7 22 0 0 ⟨#[]⟩ ⟨#[]⟩ x1.2 (.slice none 0 0)):=ag.aC bz hg2;have kY:aN w2 (w1.heap.size+1) w1.heap.size (.slice none 0 0) ([]:List Tr):=aN.aC oZ hg2))
  obtain ⟨_,_,_,_,_,_,_,sG,uE⟩:=bq.av
  refine nX E.b (w1.heap.size+1) w1.heap.size 62 #[.pointer (some ⟨E.b,0,none⟩)] _ _ kY sG (uE 6) (by omega) (by omega) (by omega) (by omega) (by simp [cK]) (aZ E _ o _ r (by omega) (by omega)) (aZ E _ o _ r (by omega) (by omega)) ((Hn.expr E _ l1 o _ r hP2.drew fG.out HR.out).mono fun e w' h=>tells h) ?_ ?_
  ·rintro a w' c had ⟨at_,k,hb,rfl⟩ hg
   exact And.intro had ⟨hG2.trans hg,.inl ⟨_,_,hb,rfl⟩⟩
  rintro vals w' A3 c3 u3 ⟨l3,hq3,yO⟩ hKx hgx eB hgo
  obtain ⟨w3,hW⟩:=uj (w'.setCell ⟨w1.heap.size,6,none⟩ (.slice A3 (([]:List Tr).length+1) c3))
  have hP3:PS E w3 l3 o:=by rw [hW];exact aO
  have hsx:=hgx.size
  have hG3:Gr (·=E.b) w w3:=by rw [hW];exact Gr.setCell (o7 hG2 hgx (by omega)) (.inl (by first|(simp;done)|(simp;omega))) _
  have aF:ag w3 w.heap.size 24 Z7:=by rw [hW];exact ag.far (ag.wr ax hgx (by omega) (.inl (by omega))) (by first|(simp;done)|(simp;omega)) _
  have aM:ag w3 w1.heap.size 24 (N7 22 0 0 ⟨#[]⟩ ⟨#[]⟩ x1.2 (.slice A3 (([]:List Tr).length+1) c3)):=by rw [hW];exact ag.jC (ag.wr bq hgx (by omega) (.inr rfl)) _
  have kX:aN w3 (w1.heap.size+1) w1.heap.size (.slice A3 (([]:List Tr).length+1) c3) (([]:List Tr) ++ [u3]):=by rw [hW];exact hKx.setCell (.inr rfl) _
  rw [<-hW]
  clear hW yO hKx hgx eB hgo hsx
  have kE:=af hq3
  clear hq3
  obtain ⟨_,_,_,EL,_,_,_,_,pg⟩:=aM.av
  go_wp2
  obtain ⟨w4,hW⟩:=uj (w3.setCell ⟨w1.heap.size,2,none⟩ (.int .i64 1))
  have qm:PS E w4 l3 o:=by rw [hW];exact aO
  have hG4:Gr (·=E.b) w w4:=by rw [hW];exact aJ
  have aK:ag w4 w.heap.size 24 Z7:=by rw [hW];exact bz
  have aW:ag w4 w1.heap.size 24 (N7 22 0 1 ⟨#[]⟩ ⟨#[]⟩ x1.2 (.slice A3 (([]:List Tr).length+1) c3)):=by rw [hW];exact bz
  have Q4:=aW.lt
  have qo:aN w4 (w1.heap.size+1) w1.heap.size (.slice A3 (([]:List Tr).length+1) c3) (([]:List Tr) ++ [u3]):=by rw [hW];exact oZ
  rw [<-hW]
  have LM:=qm.lt
  have JK:=qm.toks.lt
  clear hW
  obtain ⟨_,_,_,_,_,_,_,xJ,Dq⟩:=aW.av
  refine nX E.b (w1.heap.size+1) w1.heap.size 72 #[.pointer (some ⟨E.b,0,none⟩)] _ _ qo xJ (Dq 6) (by omega) (by omega) (by omega) (by omega) (by simp [cK]) (aZ E _ o _ r (by omega) (by omega)) (aZ E _ o _ r (by omega) (by omega)) ((Hn.block E _ l3 o _ r qm.drew kE.out HR.out).mono fun e w' h=>tells h) ?_ ?_
  ·rintro a w' c had ⟨at_,k,hb,rfl⟩ hg
   exact And.intro had ⟨hG4.trans hg,.inl ⟨_,_,hb,rfl⟩⟩
  rintro vals w' A5 c5 u5 ⟨l5,rC,yO⟩ hKx hgx eB hgo
  obtain ⟨w5,hW⟩:=uj (w'.setCell ⟨w1.heap.size,6,none⟩ (.slice A5 ((([]:List Tr) ++ [u3]).length+1) c5))
  have wX:PS E w5 l5 o:=by rw [hW];exact aO
  have hsx:=hgx.size
  have iw:Gr (·=E.b) w w5:=by rw [hW];exact Gr.setCell (o7 hG4 hgx (by omega)) (.inl (by first|(simp;done)|(simp;omega))) _
  have aT:ag w5 w.heap.size 24 Z7:=by rw [hW];exact ag.far (ag.wr aK hgx (by omega) (.inl (by omega))) (by first|(simp;done)|(simp;omega)) _
  have aR:ag w5 w1.heap.size 24 (N7 22 0 1 ⟨#[]⟩ ⟨#[]⟩ x1.2 (.slice A5 ((([]:List Tr) ++ [u3]).length+1) c5)):=by rw [hW];exact ag.jC (ag.wr aW hgx (by omega) (.inr rfl)) _
  have rZ:aN w5 (w1.heap.size+1) w1.heap.size (.slice A5 ((([]:List Tr) ++ [u3]).length+1) c5) ((([]:List Tr) ++ [u3]) ++ [u5]):=by rw [hW];exact hKx.setCell (.inr rfl) _
  rw [<-hW]
  clear hW yO hKx hgx eB hgo hsx
  have yQ:=af rC
  clear rC
  obtain ⟨_,LB,Ti,GU,Tj,Tm,Tn,yR,_⟩:=aR.av
  obtain ⟨_,DD,DF,DI,DJ,DK,DL,DN,DR⟩:=aT.av
  go_wp2
  exact aX Tryz.results108 rfl rfl dS ⟨aJ,.inr ⟨22,0,1,[],[],x1.2,((([]:List Tr) ++ [u3]) ++ [u5]),A5,c5,l5,rfl,yQ.out,aI.mono (lo:=w1.heap.size+1) (v:=.slice A5 ((([]:List Tr) ++ [u3]).length+1) c5) (ks:=((([]:List Tr) ++ [u3]) ++ [u5])) (aN.kid (h:=w1.heap.size) oZ) (by omega),(by simp [cK]),aO⟩⟩
theorem Nh (n:Nat) (hn:n<=cK) (H:∀m,m<=n->ku m):C0 (n+1) 107 .branch:=by
 intro E w l o g r hP hq hr
 simp only [go,eH,fC,eD,dG,dM] at hq
 have hlt:=hP.lt
 have hgt:=hP.toks.lt
 have HR:=af hr
 have Hn:=H n (Nat.le_refl _)
 clear hr
 have fZ:=af hq
 clear hq
 go_enter Tryz.func107,Tryz.ntmps107
 go_wp2_with (first
  |(go_at_call 18;refine (bT E _ l o [105,102] _ _ _ aO rfl (by simp) fZ.out).mono ?_;rintro e w1 ⟨hg1,⟨a,k,hb,rfl⟩|⟨x1,l1,rfl,hq1,hP1⟩⟩;exact iG (Gr.trans aJ hg1) hb;have hG1:=o8 w hg1;have fG:=af hq1;clear hq1;have kW:=hP1.lt;have oP:=hP1.toks.lt;have hs1:=hg1.size;(try simp at hs1);have az:ag w1 w.heap.size 24 Z7:=bU hg1;have mo:=az.lt)
  |(go_at_call 62;refine (Hn.expr E _ l1 o _ r aO fG.out HR.out).mono ?_;rintro e w2 ⟨hg2,⟨a,k,hb,rfl⟩|⟨k2,kJ,m2,p2,t2,a2,bN,A2,c2,l2,rfl,hq2,bI,_,hP2⟩⟩;exact iG (Gr.trans aJ hg2) hb;have hG2:=bQ hG1 hg2;have fJ:=af hq2;clear hq2;have hs2:=hg2.size;(try simp at hs2);have ax:=aD az hg2;have bI:=aI.mono (lo':=w1.heap.size+0) bI (by simp))
  |(go_at_call 72;refine (Hn.block E _ l2 o _ r aO fJ.out HR.out).mono ?_;rintro e w3 ⟨hg3,⟨a,k,hb,rfl⟩|⟨k3,ng,m3,p3,t3,a3,kC,A3,c3,l3,rfl,hq3,iI,_,hP3⟩⟩;exact iG (Gr.trans aJ hg3) hb;have hG3:=bQ hG2 hg3;have kE:=af hq3;clear hq3;have zP:=hP3.lt;have Du:=hP3.toks.lt;have hs3:=hg3.size;(try simp at hs3);have aF:=aD ax hg3;have uX:=aF.lt;have agu:aI w3 (w1.heap.size+0) (.slice A2 bN.length c2) bN:=aI.call (b:=E.b) nS hg3 (by omega);have iI:=aI.mono (lo':=w2.heap.size+0) iI (by simp);have wW:=aI.abD (lo:=w1.heap.size) (k:=k2) (op:=kJ) (m:=m2) (p:=p2) (t:=t2) (a:=a2) (k':=k3) (op':=ng) (m':=m3) (p':=p3) (t':=t3) (a':=a3) (aI.mono agu (by omega)) (aI.mono iI (by omega)) (by omega)))
 by_cases hm:mark l3=[101,108,115,101]
 ·skip
  have eY:=kE.out
  rw [if_pos hm] at eY
  have HM:=af hm
  clear kE hm
  have kE:=af eY
  clear eY
  go_wp2_with (first
   |(go_at_call 20;refine (qc E _ l3 o [101,108,115,101] _ aO rfl (by simp) HM.out).mono ?_;rintro e w4 ⟨rfl,hg4,xs,l4,X0,qm⟩;have hG4:=bQ hG3 hg4;have hq4:=kE.out;rw [X0,bH] at hq4;have tH:=af hq4;clear hq4 X0;have LM:=qm.lt;have JK:=qm.toks.lt;have hs4:=hg4.size;(try simp at hs4);have aK:=aD aF hg4;have aW:ag w4 (w3.heap.size+1) 24 (N7 21 0 0 ⟨#[]⟩ ⟨#[]⟩ x1.2 (.slice (some ⟨w3.heap.size,0,none⟩) 2 2)):=bU hg4;have qo:aN w4 w1.heap.size (w3.heap.size+1) (.slice (some ⟨w3.heap.size,0,none⟩) 2 2) [Tr.mk k2 kJ m2 p2 t2 a2 bN,Tr.mk k3 ng m3 p3 t3 a3 kC]:=rO hg4))
  obtain ⟨_,_,_,_,_,_,_,xJ,Dq⟩:=aW.av
  refine nX E.b w1.heap.size (w3.heap.size+1) 131 #[.pointer (some ⟨E.b,0,none⟩)] _ _ qo xJ (Dq 6) (by omega) (by omega) (by omega) (by omega) (by simp [cK]) (aZ E _ o _ r (by omega) (by omega)) (aZ E _ o _ r (by omega) (by omega)) ((Hn.otherwise E _ l4 o _ r qm.drew tH.out HR.out).mono fun e w' h=>tells h) ?_ ?_
  ·rintro a w' c had ⟨at_,k,hb,rfl⟩ hg
   exact And.intro had ⟨hG4.trans hg,.inl ⟨_,_,hb,rfl⟩⟩
  rintro vals w' A5 c5 u5 ⟨l5,rC,yO⟩ hKx hgx eB hgo
  obtain ⟨w5,hW⟩:=uj (w'.setCell ⟨w3.heap.size+1,6,none⟩ (.slice A5 ([Tr.mk k2 kJ m2 p2 t2 a2 bN,Tr.mk k3 ng m3 p3 t3 a3 kC].length+1) c5))
  have wX:PS E w5 l5 o:=by rw [hW];exact aO
  have hsx:=hgx.size
  have iw:Gr (·=E.b) w w5:=by rw [hW];exact Gr.setCell (o7 hG4 hgx (by omega)) (.inl (by first|(simp;done)|(simp;omega))) _
  have aT:ag w5 w.heap.size 24 Z7:=by rw [hW];exact ag.far (ag.wr aK hgx (by omega) (.inl (by omega))) (by first|(simp;done)|(simp;omega)) _
  have aR:ag w5 (w3.heap.size+1) 24 (N7 21 0 0 ⟨#[]⟩ ⟨#[]⟩ x1.2 (.slice A5 ([Tr.mk k2 kJ m2 p2 t2 a2 bN,Tr.mk k3 ng m3 p3 t3 a3 kC].length+1) c5)):=by rw [hW];exact ag.jC (ag.wr aW hgx (by omega) (.inr rfl)) _
  have rZ:aN w5 w1.heap.size (w3.heap.size+1) (.slice A5 ([Tr.mk k2 kJ m2 p2 t2 a2 bN,Tr.mk k3 ng m3 p3 t3 a3 kC].length+1) c5) ([Tr.mk k2 kJ m2 p2 t2 a2 bN,Tr.mk k3 ng m3 p3 t3 a3 kC] ++ [u5]):=by rw [hW];exact hKx.setCell (.inr rfl) _
  rw [<-hW]
  clear hW yO hKx hgx eB hgo hsx
  have yQ:=af rC
  clear rC
  obtain ⟨_,LB,Ti,GU,Tj,Tm,Tn,yR,_⟩:=aR.av
  obtain ⟨_,DD,DF,DI,DJ,DK,DL,DN,DR⟩:=aT.av
  go_wp2
  exact aX Tryz.results107 rfl rfl dS ⟨aJ,.inr ⟨21,0,0,[],[],x1.2,([Tr.mk k2 kJ m2 p2 t2 a2 bN,Tr.mk k3 ng m3 p3 t3 a3 kC] ++ [u5]),A5,c5,l5,rfl,yQ.out,aI.mono (lo:=w1.heap.size) (v:=.slice A5 ([Tr.mk k2 kJ m2 p2 t2 a2 bN,Tr.mk k3 ng m3 p3 t3 a3 kC].length+1) c5) (ks:=([Tr.mk k2 kJ m2 p2 t2 a2 bN,Tr.mk k3 ng m3 p3 t3 a3 kC] ++ [u5])) (aN.kid (h:=w3.heap.size+1) oZ) (by omega),(by simp [cK]),aO⟩⟩
 ·skip
  have eY:=kE.out
  rw [if_neg hm] at eY
  have HM:=af hm
  clear kE hm
  have kE:=af eY
  clear eY
  go_wp2_with (first
   |(go_at_call 20;refine (rA E _ l3 o [101,108,115,101] _ aO rfl HM.out).mono ?_;rintro e w4 ⟨rfl,hg4⟩;have qm:PS E w4 l3 o:=PS.below aO hg4;have hG4:=aL hG3 hg4;have aK:=bV aF hg4;obtain ⟨_,wO,xC,xD,xE,xG,xH,xI,wP⟩:=aK.av;have aW:ag w4 (w3.heap.size+1) 24 (N7 21 0 0 ⟨#[]⟩ ⟨#[]⟩ x1.2 (.slice (some ⟨w3.heap.size,0,none⟩) 2 2)):=ag.aC bz hg4;obtain ⟨_,Ck,Dp,EB,EC,ED,EE,xJ,_⟩:=aW.av;have qo:aN w4 w1.heap.size (w3.heap.size+1) (.slice (some ⟨w3.heap.size,0,none⟩) 2 2) [Tr.mk k2 kJ m2 p2 t2 a2 bN,Tr.mk k3 ng m3 p3 t3 a3 kC]:=aN.aC oZ hg4))
  exact aX Tryz.results107 rfl rfl dS ⟨aJ,.inr ⟨21,0,0,[],[],x1.2,[Tr.mk k2 kJ m2 p2 t2 a2 bN,Tr.mk k3 ng m3 p3 t3 a3 kC],_,2,l3,rfl,kE.out,aI.mono (lo:=w1.heap.size) (v:=.slice (some ⟨w3.heap.size,0,none⟩) 2 2) (ks:=[Tr.mk k2 kJ m2 p2 t2 a2 bN,Tr.mk k3 ng m3 p3 t3 a3 kC]) (aN.kid (h:=w3.heap.size+1) oZ) (by omega),(by simp [cK]),aO⟩⟩
theorem Ur {n:Nat} {k:Int} {l l':List T} {o:Nat} {t:Tr} (h:go n (.named k) l o= .ok t l'):t.kids.length=1:=by
 cases n with
 |zero=>cases h
 |succ n=>
  simp only [go] at h
  unfold fu at h
  split at h
  ·cases l with
   |nil=>cases h
   |cons x r=>
    rw [bH] at h
    cases hg:go n .typeOf r o with
    |ok u q=>rw [hg] at h;simp only [dM] at h;injection h with h1 h2;subst h1;rfl
    |bad a e=>rw [hg] at h;cases h
    |out=>rw [hg] at h;cases h
  ·cases l with
   |nil=>cases h
   |cons x r=>cases h
theorem Gt (n:Nat) (hn:n<=cK) (H:∀m,m<=n->ku m):C0 (n+1) 42 .dh:=by
 intro E w l o g r hP hq hr
 simp only [go,eH,fC,eD,dG,dM] at hq
 have hlt:=hP.lt
 have hgt:=hP.toks.lt
 have HR:=af hr
 have Hn:=H n (Nat.le_refl _)
 clear hr
 have fZ:=af hq
 clear hq
 go_enter Tryz.func42,Tryz.ntmps42
 go_wp2_with (first
  |(go_at_call 18;refine (bT E _ l o [118,97,114] _ _ _ aO rfl (by simp) fZ.out).mono ?_;rintro e w1 ⟨hg1,⟨a,k,hb,rfl⟩|⟨x1,l1,rfl,hq1,hP1⟩⟩;exact iG (Gr.trans aJ hg1) hb;have hG1:=o8 w hg1;have fG:=af hq1;clear hq1;have kW:=hP1.lt;have oP:=hP1.toks.lt;have hs1:=hg1.size;(try simp at hs1);have az:ag w1 w.heap.size 24 Z7:=bU hg1;have mo:=az.lt)
  |(go_at_call 61;refine (Hn.named 4 E _ l1 o R.ok _ aO (UR _) (UX fG.out HR.out)).mono ?_;rintro e w2 ⟨hg2,⟨a,k,hb,rfl⟩|⟨k2,kJ,m2,p2,t2,a2,bN,A2,c2,l2,rfl,hq2,bI,hn2,hP2⟩⟩;exact And.intro rfl ⟨Gr.trans aJ hg2,.inl ⟨_,_,by rw [<-fG.out,hb];rfl,rfl⟩⟩;have jf:=Ur hq2.symm;have hq2:=fG.out.symm.trans (congrArg (fun x=>bnd x _) hq2.symm) |>.symm;rw [dM] at hq2;have hG2:=bQ hG1 hg2;have fJ:=af hq2;clear hq2;have ou:=hP2.lt;have ql:=hP2.toks.lt;have hs2:=hg2.size;(try simp at hs2);have ax:=aD az hg2;have jT:=ax.lt;have bI:=aI.mono (lo':=w1.heap.size+0) bI (by simp);have kY:=aI.mono (lo':=w1.heap.size) bI (by omega)))
 by_cases hm:mark l2=[61]
 ·skip
  have eY:=fJ.out
  rw [if_pos hm] at eY
  have HM:=af hm
  clear fJ hm
  have fJ:=af eY
  clear eY
  go_wp2_with (first
   |(go_at_call 20;refine (qc E _ l2 o [61] _ aO rfl (by simp) HM.out).mono ?_;rintro e w3 ⟨rfl,hg3,xs,l3,LG,hP3⟩;have hG3:=bQ hG1 hg3;have hq3:=fJ.out;rw [LG,bH] at hq3;have kE:=af hq3;clear hq3 LG;have zP:=hP3.lt;have Du:=hP3.toks.lt;have hs3:=hg3.size;(try simp at hs3);have aF:=aD az hg3;have aM:ag w3 w2.heap.size 24 (N7 k2 kJ m2 (bs p2) (bs t2) a2 (.slice A2 bN.length c2)):=bU hg3;have kX:aN w3 w1.heap.size w2.heap.size (.slice A2 bN.length c2) bN:=rO hg3))
  obtain ⟨_,_,_,_,_,_,_,sH,pg⟩:=aM.av
  refine nX E.b w1.heap.size w2.heap.size 62 #[.pointer (some ⟨E.b,0,none⟩)] _ _ kX sH (pg 6) (by omega) (by omega) (by omega) (by omega) hn2 (aZ E _ o _ r (by omega) (by omega)) (aZ E _ o _ r (by omega) (by omega)) ((Hn.expr E _ l3 o _ r hP3.drew kE.out HR.out).mono fun e w' h=>tells h) ?_ ?_
  ·rintro a w' c had ⟨at_,k,hb,rfl⟩ hg
   exact And.intro had ⟨hG3.trans hg,.inl ⟨_,_,hb,rfl⟩⟩
  rintro vals w' A4 c4 u4 ⟨l4,hq4,yO⟩ hKx hgx eB hgo
  obtain ⟨w4,hW⟩:=uj (w'.setCell ⟨w2.heap.size,6,none⟩ (.slice A4 (bN.length+1) c4))
  have qm:PS E w4 l4 o:=by rw [hW];exact aO
  have hsx:=hgx.size
  have hG4:Gr (·=E.b) w w4:=by rw [hW];exact Gr.setCell (o7 hG3 hgx (by omega)) (.inl (by first|(simp;done)|(simp;omega))) _
  have aK:ag w4 w.heap.size 24 Z7:=by rw [hW];exact ag.far (ag.wr aF hgx (by omega) (.inl (by omega))) (by first|(simp;done)|(simp;omega)) _
  have aW:ag w4 w2.heap.size 24 (N7 k2 kJ m2 (bs p2) (bs t2) a2 (.slice A4 (bN.length+1) c4)):=by rw [hW];exact ag.jC (ag.wr aM hgx (by omega) (.inr rfl)) _
  have qo:aN w4 w1.heap.size w2.heap.size (.slice A4 (bN.length+1) c4) (bN ++ [u4]):=by rw [hW];exact hKx.setCell (.inr rfl) _
  rw [<-hW]
  clear hW yO hKx hgx eB hgo hsx
  have tH:=af hq4
  clear hq4
  go_wp2_with (first
   |(go_at_call 18;refine (bT E _ l4 o [59] _ _ _ aO rfl (by simp) tH.out).mono ?_;rintro e w5 ⟨hg5,⟨a,k,hb,rfl⟩|⟨x5,l5,rfl,rC,wX⟩⟩;exact iG (Gr.trans aJ hg5) hb;have iw:=bQ hG4 hg5;have yQ:=af rC;clear rC;have aT:=aD aK hg5;obtain ⟨_,DD,DF,DI,DJ,DK,DL,DN,DR⟩:=aT.av;have aR:=aD aW hg5;obtain ⟨_,LB,Ti,GU,Tj,Tm,Tn,yR,_⟩:=aR.av;have rZ:aN w5 w1.heap.size w2.heap.size (.slice A4 (bN.length+1) c4) (bN ++ [u4]):=rO hg5))
  have hl:=(show (bN ++ [u4]).length=bN.length+1 by simp)
  exact aX Tryz.results42 rfl rfl dS ⟨aJ,.inr ⟨k2,kJ,m2,p2,t2,a2,(bN ++ [u4]),A4,c4,l5,(by rw [hl]),yQ.out,(by rw [hl];exact aI.mono (lo:=w1.heap.size) (v:=.slice A4 (bN.length+1) c4) (ks:=(bN ++ [u4])) (aN.kid (h:=w2.heap.size) oZ) (by omega)),(by have:bN.length=1:=jf;rw [hl,this];simp [cK]),aO⟩⟩
 ·skip
  have eY:=fJ.out
  rw [if_neg hm] at eY
  have HM:=af hm
  clear fJ hm
  have fJ:=af eY
  clear eY
  go_wp2_with (first
   |(go_at_call 20;refine (rA E _ l2 o [61] _ aO rfl HM.out).mono ?_;rintro e w3 ⟨rfl,hg3⟩;have hP3:PS E w3 l2 o:=PS.below aO hg3;have hG3:=aL hG1 hg3;have aF:=bV az hg3;have aM:ag w3 w2.heap.size 24 (N7 k2 kJ m2 (bs p2) (bs t2) a2 (.slice A2 bN.length c2)):=ag.aC bz hg3;have kX:aN w3 w1.heap.size w2.heap.size (.slice A2 bN.length c2) bN:=aN.aC oZ hg3)
   |(go_at_call 18;refine (bT E _ l2 o [59] _ _ _ aO rfl (by simp) fJ.out).mono ?_;rintro e w4 ⟨hg4,⟨a,k,hb,rfl⟩|⟨x4,l4,rfl,hq4,qm⟩⟩;exact iG (Gr.trans aJ hg4) hb;have hG4:=bQ hG3 hg4;have tH:=af hq4;clear hq4;have aK:=aD aF hg4;obtain ⟨_,wO,xC,xD,xE,xG,xH,xI,wP⟩:=aK.av;have aW:=aD aM hg4;obtain ⟨_,Ck,Dp,EB,EC,ED,EE,xJ,_⟩:=aW.av;have qo:aN w4 w1.heap.size w2.heap.size (.slice A2 bN.length c2) bN:=rO hg4))
  exact aX Tryz.results42 rfl rfl dS ⟨aJ,.inr ⟨k2,kJ,m2,p2,t2,a2,bN,A2,c2,l4,rfl,tH.out,aI.mono (lo:=w1.heap.size) (v:=.slice A2 bN.length c2) (ks:=bN) (aN.kid (h:=w2.heap.size) oZ) (by omega),hn2,aO⟩⟩
theorem X3 (n:Nat) (hn:n<=cK) (H:∀m,m<=n->ku m):C0 (n+1) 136 .key:=by
 intro E w l o g r hP hq hr
 simp only [go,eH,jr,dG,dM] at hq
 have hlt:=hP.lt
 have hgt:=hP.toks.lt
 have HR:=af hr
 have Hn:=H n (Nat.le_refl _)
 clear hr
 have fZ:=af hq
 clear hq
 go_enter Tryz.func136,Tryz.ntmps136
 go_wp2_with (first
  |(go_at_call 19;refine (jd E _ l o _ _ aO fZ.out).mono ?_;rintro e w1 ⟨hg1,⟨a,k,hb,rfl⟩|⟨x1,l1,rfl,hq1,hP1⟩⟩;exact iG (Gr.trans aJ hg1) hb;have hG1:=o8 w hg1;have fG:=af hq1;clear hq1;have kW:=hP1.lt;have hs1:=hg1.size;(try simp at hs1);have az:ag w1 w.heap.size 24 Z7:=bU hg1)
  |(go_at_call 18;refine (bT E _ l1 o [58] _ _ _ aO rfl (by simp) fG.out).mono ?_;rintro e w2 ⟨hg2,⟨a,k,hb,rfl⟩|⟨x2,l2,rfl,hq2,hP2⟩⟩;exact iG (Gr.trans aJ hg2) hb;have hG2:=bQ hG1 hg2;have fJ:=af hq2;clear hq2;have ax:=aD az hg2;have jT:=ax.lt;have qI:ag w2 w1.heap.size 53 (T4 x1.1.k (bs x1.1.t) x1.1.n x1.2):=bU hg2))
 refine wp_region_held_drew (S:=fun W=>ag W w1.heap.size 53 (T4 x1.1.k (bs x1.1.t) x1.1.n x1.2)) (by kernel_rfl) bz (fun hS0=>?_)
 refine oU 0 hS0 ?_ (he:=fun w' hS=>by ((try skip);(try obtain ⟨_,s0,s1,s2,s3,s4,s5,s6,sf⟩:=hS.av);unfold execOp;go_simp;first|done|exact rfl))
 refine oU 1 hS0 ?_ (he:=fun w' hS=>by ((try obtain ⟨_,_,s1,_⟩:=hS.jX);(try obtain ⟨_,s0,s1,s2,s3,s4,s5,s6,sf⟩:=hS.av);unfold execOp;go_simp;first|done|exact rfl))
 refine oU 2 hS0 ?_ (he:=fun w' hS=>by ((try skip);(try obtain ⟨_,s0,s1,s2,s3,s4,s5,s6,sf⟩:=hS.av);unfold execOp;go_simp;first|done|exact rfl))
 refine oU 3 hS0 ?_ (he:=fun w' hS=>by ((try obtain ⟨_,_,_,_,s3,_⟩:=hS.jX);(try obtain ⟨_,s0,s1,s2,s3,s4,s5,s6,sf⟩:=hS.av);unfold execOp;go_simp;first|done|exact rfl))
 refine oU 4 hS0 ?_ (he:=fun w' hS=>by ((try skip);(try obtain ⟨_,s0,s1,s2,s3,s4,s5,s6,sf⟩:=hS.av);unfold execOp;go_simp;first|done|exact rfl))
 refine oI 5 rfl (fP (args:=#[.pointer (some ⟨E.b,0,none⟩)]) (f:=62) (by unfold execOp;go_simp) ((Hn.expr E _ l2 o _ r (by exact aO) fJ.out HR.out).mono ?_))
 rintro e w3 ⟨hg3,⟨a,k,hb,rfl⟩|⟨k2,kJ,m2,p2,t2,a2,bN,A2,c2,l3,rfl,hq3,hk2,_,hP3⟩⟩
 ·exact iG (Gr.trans aJ hg3) hb
 have hx2:=aD qI hg3
 refine And.intro hx2 ?_
 simp only [Act.put,gA,gB,gC,gD,gE,gF]
 have hs3:w2.heap.size+0<=w3.heap.size:=by have:=hg3.size;simpa using this
 have ac4:aI w3 (w2.heap.size+0) (.slice A2 bN.length c2) bN:=aI.mono hk2 (by simp)
 have hz2:=aD ax hg3
 have hG3:=bQ hG2 hg3
 have wW:=aI.lI (k:=k2) (op:=kJ) (m:=m2) (p:=p2) (t:=t2) (a:=a2) ac4 hs3
 refine oI 6 rfl (aY (Ih _ _ _ _ _ _ _ _ _ _ _ _ _ A2 bN.length c2 rfl) (And.intro bz ?_))
 simp only [Act.put,gA,gB,gC,gD,gE,gF]
 refine oI 7 rfl (sF (.agg #[.int .i64 39,.int .i64 0,.int .i64 0,.string ⟨#[]⟩,.string (bs x1.1.t),.int .i64 x1.2,.slice (some ⟨w3.heap.size,0,none⟩) 1 1]) (by unfold execOp;go_simp) (And.intro bz ?_))
 simp only [Act.put,gA,gB,gC,gD,gE,gF]
 refine oI 8 rfl (Ci _ _ 39 0 0 [] x1.1.t x1.2 1 1 _ rfl rfl (ag.alloc hz2 _) fun w9 hz3 gP=>And.intro (ag.gr bz gP (by omega)) ?_)
 refine eZ ?_
 simp only [Act.put]
 go_wp2
 exact aX Tryz.results136 rfl rfl hz3 ⟨gP.one (hG3.alloc _) (Nat.le_refl _),.inr ⟨39,0,0,[],x1.1.t,x1.2,[Tr.mk k2 kJ m2 p2 t2 a2 bN],_,1,l3,rfl,hq3,aI.mono (wW.one gP (by omega)) (by omega),by simp [cK],(hP3.alloc _).one gP (by omega) (by omega)⟩⟩
theorem Hu (n:Nat) (hn:n<=cK) (H:∀m,m<=n->ku m):C0 (n+1) 67 .receiver:=by
 intro E w l o g r hP hq hr
 simp only [go,mg,eH,jr,dM] at hq
 have hlt:=hP.lt
 have hgt:=hP.toks.lt
 clear hr
 have fZ:=af hq
 clear hq
 go_enter Tryz.func67,Tryz.ntmps67
 go_wp2_with (first
  |(go_at_call 65;refine (kN E _ l o [40] _ _ _ aO rfl (by simp) fZ.out).mono ?_;rintro e w1 ⟨hg1,⟨a,k,hb,rfl⟩|⟨x1,l1,rfl,hq1,hP1⟩⟩;exact iG (Gr.trans aJ hg1) hb;have hG1:=o8 w hg1;have fG:=af hq1;clear hq1;have az:ag w1 w.heap.size 24 Z7:=bU hg1)
  |((fail_if_success (have:=hg2));go_at_call 19;refine (jd E _ l1 (o+1) _ _ aO fG.out).mono ?_;rintro e w2 ⟨hg2,⟨a,k,hb,rfl⟩|⟨x2,l2,rfl,hq2,hP2⟩⟩;exact iG (Gr.trans aJ hg2) hb;have hG2:=bQ hG1 hg2;have fJ:=af hq2;clear hq2;have ou:=hP2.lt;have ax:=aD az hg2)
  |(go_at_call 18;refine (bT E _ l2 (o+1) [42] _ _ _ aO rfl (by simp) fJ.out).mono ?_;rintro e w3 ⟨hg3,⟨a,k,hb,rfl⟩|⟨x3,l3,rfl,hq3,hP3⟩⟩;exact iG (Gr.trans aJ hg3) hb;have hG3:=bQ hG2 hg3;have kE:=af hq3;clear hq3;have zP:=hP3.lt;have aF:=aD ax hg3;have tJ:ag w3 w2.heap.size 53 (T4 x2.1.k (bs x2.1.t) x2.1.n x2.2):=bU hg3)
  |(go_at_call 19;refine (jd E _ l3 (o+1) _ _ aO kE.out).mono ?_;rintro e w4 ⟨hg4,⟨a,k,hb,rfl⟩|⟨x4,l4,rfl,hq4,qm⟩⟩;exact iG (Gr.trans aJ hg4) hb;have hG4:=bQ hG3 hg4;have tH:=af hq4;clear hq4;have LM:=qm.lt;have aK:=aD aF hg4;have sj:=aD tJ hg4;have agv:ag w4 w3.heap.size 53 (T4 x3.1.k (bs x3.1.t) x3.1.n x3.2):=bU hg4)
  |(go_at_call 66;refine (gY E _ l4 o [41] _ _ _ aO rfl (by simp) tH.out).mono ?_;rintro e w5 ⟨hg5,⟨a,k,hb,rfl⟩|⟨_,l5,rfl,rC,wX⟩⟩;exact iG (Gr.trans aJ hg5) hb;have iw:=bQ hG4 hg5;have yQ:=af rC;clear rC;have hs5:=hg5.size;(try simp at hs5);have aT:=aD aK hg5;have EN:=aT.lt;obtain ⟨_,DD,DF,DI,DJ,DK,DL,DN,DR⟩:=aT.av;have De:=aD sj hg5;have al4:=De.lt;obtain ⟨_,_,ani,_,anj,_⟩:=De.jX;have abo:=aD agv hg5;have al5:=abo.lt;obtain ⟨_,_,_,_,ank,_⟩:=abo.jX;have agw:ag w5 w4.heap.size 53 (T4 x4.1.k (bs x4.1.t) x4.1.n x4.2):=bU hg5;obtain ⟨_,_,anl,_,anm,_⟩:=agw.jX;have al6:w2.heap.size < w5.heap.size+1:=(by omega);have al7:w2.heap.size < w5.heap.size+2:=(by omega);have al8:w.heap.size < w5.heap.size+1:=(by omega);have al9:w.heap.size < w5.heap.size+2:=(by omega);have abp:w.heap.size < w5.heap.size+3:=(by omega);have ama:¬w.heap.size=w5.heap.size:=(by omega)))
 obtain ⟨V,hV⟩:=uj (((((((w5.setCell ⟨w.heap.size,0,none⟩ (.int .i64 12)).setCell ⟨w.heap.size,1,none⟩ (.int .i64 0)).setCell ⟨w.heap.size,2,none⟩ (.int .i64 0)).setCell ⟨w.heap.size,3,none⟩ (.string ⟨#[]⟩)).setCell ⟨w.heap.size,4,none⟩ (.string (bs x2.1.t))).setCell ⟨w.heap.size,5,none⟩ (.int .i64 x2.2)).setCell ⟨w.heap.size,6,none⟩ (.slice (some ⟨w5.heap.size+1+1+1,0,none⟩) 1 1))
 have ZR:PS E V l5 o:=by rw [hV];exact aO
 have KX:Gr (·=E.b) w V:=by rw [hV];exact aJ
 have YT:ag V w.heap.size 24 (N7 12 0 0 ⟨#[]⟩ (bs x2.1.t) x2.2 (.slice (some ⟨w5.heap.size+1+1+1,0,none⟩) 1 1)):=by rw [hV];exact dS
 have YU:V.heap.size=w5.heap.size:=by rw [hV];simp
 rw [<-hV]
 clear hV
 have hk1:=aI.oW (lo:=w5.heap.size) (g:=w5.heap.size+1) (k:=13) (op:=0) (m:=0) (p:=[]) (t:=x4.1.t) (a:=x4.2) (ks:=[]) (A:=none) (c:=0) (aI.nil (V.alloc (.cells #[.int .i64 13,.int .i64 0,.int .i64 0,.string ⟨#[]⟩,.string (bs x4.1.t),.int .i64 x4.2,.slice none 0 0] 24)) _ 0) (by simp;omega) (by simp;omega)
 have hk2:=aI.oW (lo:=w5.heap.size) (g:=w5.heap.size+1+1+1) (k:=14) (op:=0) (m:=0) (p:=[]) (t:=[]) (a:=x3.2) (ks:=[Tr.mk 13 0 0 [] x4.1.t x4.2 []]) (A:=some ⟨w5.heap.size+1,0,none⟩) (c:=1) (hk1.alloc (.cells #[.int .i64 14,.int .i64 0,.int .i64 0,.string ⟨#[]⟩,.string ⟨#[]⟩,.int .i64 x3.2,.slice (some ⟨w5.heap.size+1,0,none⟩) 1 1] 24)) (by simp;omega) (by simp;omega)
 exact aX (v3:=.string ⟨#[]⟩) (v6:=.slice (some ⟨w5.heap.size+1+1+1,0,none⟩) 1 1) Tryz.results67 rfl rfl ((((YT.alloc _).alloc _).alloc _).alloc _) ⟨aJ,.inr ⟨12,0,0,[],x2.1.t,x2.2,[Tr.mk 14 0 0 [] [] x3.2 [Tr.mk 13 0 0 [] x4.1.t x4.2 []]],_,1,l5,rfl,yQ.out,aI.mono hk2 (by omega),by simp [cK],aO⟩⟩
theorem D6 (n:Nat) (hn:n<=cK) (H:∀m,m<=n->ku m):C0 (n+1) 142 .jB:=by
 intro E w l o g r hP hq hr
 simp only [go,mg,eH,jr,fC,eD,dG,dM] at hq
 have hlt:=hP.lt
 have hgt:=hP.toks.lt
 have HR:=af hr
 have Hn:=H n (Nat.le_refl _)
 clear hr
 have fZ:=af hq
 clear hq
 go_enter Tryz.func142,Tryz.ntmps142
 go_wp2_with (first
  |(go_at_call 65;refine (kN E _ l o [40] _ _ _ aO rfl (by simp) fZ.out).mono ?_;rintro e w1 ⟨hg1,⟨a,k,hb,rfl⟩|⟨x1,l1,rfl,hq1,hP1⟩⟩;exact iG (Gr.trans aJ hg1) hb;have hG1:=o8 w hg1;have fG:=af hq1;clear hq1;have az:ag w1 w.heap.size 24 Z7:=bU hg1))
 by_cases hm:mark l1=[42]
 ·skip
  have eY:=fG.out
  rw [if_pos hm] at eY
  have HM:=af hm
  clear fG hm
  have fG:=af eY
  clear eY
  go_wp2_with (first
   |(go_at_call 20;refine (qc E _ l1 (o+1) [42] _ aO rfl (by simp) HM.out).mono ?_;rintro e w2 ⟨rfl,hg2,xs,l2,Lp,hP2⟩;have hG2:=bQ hG1 hg2;have hq2:=fG.out;rw [Lp,bH] at hq2;have fJ:=af hq2;clear hq2 Lp;have ou:=hP2.lt;have ax:=aD az hg2;have jT:=ax.lt)
   |(go_at_call 90;refine (Hn.typeName E _ l2 (o+1) _ r aO fJ.out HR.out).mono ?_;rintro e w3 ⟨hg3,⟨a,k,hb,rfl⟩|⟨k3,ng,m3,p3,t3,a3,kC,A3,c3,l3,rfl,hq3,iI,_,hP3⟩⟩;exact iG (Gr.trans aJ hg3) hb;have hG3:=bQ hG2 hg3;have kE:=af hq3;clear hq3;have zP:=hP3.lt;have Du:=hP3.toks.lt;have hs3:=hg3.size;(try simp at hs3);have aF:=aD ax hg3;have uX:=aF.lt;have iI:=aI.mono (lo':=w2.heap.size+0) iI (by simp);have wW:=aI.lI (lo:=w2.heap.size) (k:=k3) (op:=ng) (m:=m3) (p:=p3) (t:=t3) (a:=a3) (aI.mono iI (by omega)) (by omega))
   |(go_at_call 66;refine (gY E _ l3 o [41] _ _ _ aO rfl (by simp) kE.out).mono ?_;rintro e w4 ⟨hg4,⟨a,k,hb,rfl⟩|⟨_,l4,rfl,hq4,qm⟩⟩;exact iG (Gr.trans aJ hg4) hb;have hG4:=bQ hG3 hg4;have tH:=af hq4;clear hq4;have aK:=aD aF hg4;have aW:ag w4 (w3.heap.size+1) 24 (N7 42 0 0 ⟨#[]⟩ ⟨#[]⟩ x1.2 (.slice (some ⟨w3.heap.size,0,none⟩) 1 1)):=bU hg4;have qo:aN w4 w2.heap.size (w3.heap.size+1) (.slice (some ⟨w3.heap.size,0,none⟩) 1 1) [Tr.mk k3 ng m3 p3 t3 a3 kC]:=rO hg4)
   |(go_at_call 18;refine (bT E _ l4 o [46] _ _ _ aO rfl (by simp) tH.out).mono ?_;rintro e w5 ⟨hg5,⟨a,k,hb,rfl⟩|⟨x5,l5,rfl,rC,wX⟩⟩;exact iG (Gr.trans aJ hg5) hb;have iw:=bQ hG4 hg5;have yQ:=af rC;clear rC;have aT:=aD aK hg5;have aR:=aD aW hg5;have rZ:aN w5 w2.heap.size (w3.heap.size+1) (.slice (some ⟨w3.heap.size,0,none⟩) 1 1) [Tr.mk k3 ng m3 p3 t3 a3 kC]:=rO hg5)
   |(go_at_call 19;refine (jd E _ l5 o _ _ aO yQ.out).mono ?_;rintro e w6 ⟨dA,⟨a,k,hb,rfl⟩|⟨x6,l6,rfl,r9,yC⟩⟩;exact iG (Gr.trans aJ dA) hb;have iX:=bQ iw dA;have Cm:=af r9;clear r9;have bn:=aD aT dA;obtain ⟨_,Jw,Jy,Jz,JC,JF,JG,JH,JI⟩:=bn.av;have bE:=aD aR dA;obtain ⟨_,NV,Vl,NW,Vm,Vn,Vo,NY,Vp⟩:=bE.av;have Bd:aN w6 w2.heap.size (w3.heap.size+1) (.slice (some ⟨w3.heap.size,0,none⟩) 1 1) [Tr.mk k3 ng m3 p3 t3 a3 kC]:=rO dA))
  exact aX Tryz.results142 rfl rfl dS ⟨aJ,.inr ⟨42,0,0,[],x6.1.t,x1.2,[Tr.mk k3 ng m3 p3 t3 a3 kC],_,1,l6,rfl,Cm.out,aI.mono (lo:=w2.heap.size) (v:=.slice (some ⟨w3.heap.size,0,none⟩) 1 1) (ks:=[Tr.mk k3 ng m3 p3 t3 a3 kC]) (aN.kid (h:=w3.heap.size+1) oZ) (by omega),(by simp [cK]),aO⟩⟩
 ·skip
  have eY:=fG.out
  rw [if_neg hm] at eY
  have HM:=af hm
  clear fG hm
  have fG:=af eY
  clear eY
  go_wp2_with (first
   |(go_at_call 20;refine (rA E _ l1 (o+1) [42] _ aO rfl HM.out).mono ?_;rintro e w2 ⟨rfl,hg2⟩;have hP2:PS E w2 l1 (o+1):=PS.below aO hg2;have hG2:=aL hG1 hg2;have ou:=hP2.lt;have ax:=bV az hg2;have jT:=ax.lt)
   |(go_at_call 62;refine (Hn.expr E _ l1 (o+1) _ r aO fG.out HR.out).mono ?_;rintro e w3 ⟨hg3,⟨a,k,hb,rfl⟩|⟨k3,ng,m3,p3,t3,a3,kC,A3,c3,l3,rfl,hq3,iI,GJ,hP3⟩⟩;exact iG (Gr.trans aJ hg3) hb;have hG3:=bQ hG2 hg3;have kE:=af hq3;clear hq3;have zP:=hP3.lt;have aF:=aD ax hg3;have iI:=aI.mono (lo':=w2.heap.size+0) iI (by simp);have kX:=aI.mono (lo':=w2.heap.size) iI (by omega))
   |(go_at_call 66;refine (gY E _ l3 o [41] _ _ _ aO rfl (by simp) kE.out).mono ?_;rintro e w4 ⟨hg4,⟨a,k,hb,rfl⟩|⟨_,l4,rfl,hq4,qm⟩⟩;exact iG (Gr.trans aJ hg4) hb;have hG4:=bQ hG3 hg4;have tH:=af hq4;clear hq4;have aK:=aD aF hg4;obtain ⟨_,wO,xC,xD,xE,xG,xH,xI,wP⟩:=aK.av;have aW:ag w4 w3.heap.size 24 (N7 k3 ng m3 (bs p3) (bs t3) a3 (.slice A3 kC.length c3)):=bU hg4;obtain ⟨_,Ck,Dp,EB,EC,ED,EE,xJ,_⟩:=aW.av;have qo:aN w4 w2.heap.size w3.heap.size (.slice A3 kC.length c3) kC:=rO hg4))
  exact aX Tryz.results142 rfl rfl dS ⟨aJ,.inr ⟨k3,ng,m3,p3,t3,a3,kC,A3,c3,l4,rfl,tH.out,aI.mono (lo:=w2.heap.size) (v:=.slice A3 kC.length c3) (ks:=kC) (aN.kid (h:=w3.heap.size) oZ) (by omega),GJ,aO⟩⟩
theorem CR (n:Nat) (hn:n<=cK) (H:∀m,m<=n->ku m):C0 (n+1) 143 .iT:=by
 intro E w l o g r hP hq hr
 simp only [go,mg,eH,dG,dM] at hq
 have hlt:=hP.lt
 have hgt:=hP.toks.lt
 have HR:=af hr
 have Hn:=H n (Nat.le_refl _)
 clear hr
 have fZ:=af hq
 clear hq
 go_enter Tryz.func143,Tryz.ntmps143
 go_wp2_with (first
  |(go_at_call 65;(with_reducible refine (kN E _ l o [91] ⟨#[91]⟩ _ _ aO rfl (by simp) fZ.out).mono ?_);rintro e w1 ⟨hg1,⟨a,k,hb,rfl⟩|⟨x1,l1,rfl,hq1,hP1⟩⟩;exact iG (Gr.trans aJ hg1) hb;have hG1:=o8 w hg1;have fG:=af hq1;clear hq1;have kW:=hP1.lt;have oP:=hP1.toks.lt;have hs1:=hg1.size;(try simp at hs1);have az:ag w1 w.heap.size 24 Z7:=bU hg1)
  |(go_at_call 66;(with_reducible refine (gY E _ l1 o [93] ⟨#[93]⟩ _ _ aO rfl (by simp) fG.out).mono ?_);rintro e w2 ⟨hg2,⟨a,k,hb,rfl⟩|⟨_,l2,rfl,hq2,hP2⟩⟩;exact iG (Gr.trans aJ hg2) hb;have hG2:=bQ hG1 hg2;have fJ:=af hq2;clear hq2;have ou:=hP2.lt;have ql:=hP2.toks.lt;have hs2:=hg2.size;(try simp at hs2);have ax:=aD az hg2;have bq:ag w2 w1.heap.size 24 (N7 40 0 0 ⟨#[]⟩ ⟨#[]⟩ x1.2 (.slice none 0 0)):=bU hg2;have kY:aN w2 (w1.heap.size+1) w1.heap.size (.slice none 0 0) ([]:List Tr):=rO hg2))
 obtain ⟨_,_,_,_,_,_,_,sG,uE⟩:=bq.av
 refine nX E.b (w1.heap.size+1) w1.heap.size 88 #[.pointer (some ⟨E.b,0,none⟩)] _ _ kY sG (uE 6) (by omega) (by omega) (by omega) (by omega) (by simp [cK]) (aZ E _ o _ r (by omega) (by omega)) (aZ E _ o _ r (by omega) (by omega)) ((Hn.typeOf E _ l2 o _ r hP2.drew fJ.out HR.out).mono fun e w' h=>tells h) ?_ ?_
 ·rintro a w' c had ⟨at_,k,hb,rfl⟩ hg
  exact And.intro had ⟨hG2.trans hg,.inl ⟨_,_,hb,rfl⟩⟩
 rintro vals w' A3 c3 u3 ⟨l3,hq3,yO⟩ hKx hgx eB hgo
 obtain ⟨w3,hW⟩:=uj (w'.setCell ⟨w1.heap.size,6,none⟩ (.slice A3 (([]:List Tr).length+1) c3))
 have hP3:PS E w3 l3 o:=by rw [hW];exact aO
 have hsx:=hgx.size
 have hG3:Gr (·=E.b) w w3:=by rw [hW];exact Gr.setCell (o7 hG2 hgx (by omega)) (.inl (by first|(simp;done)|(simp;omega))) _
 have aF:ag w3 w.heap.size 24 Z7:=by rw [hW];exact ag.far (ag.wr ax hgx (by omega) (.inl (by omega))) (by first|(simp;done)|(simp;omega)) _
 have aM:ag w3 w1.heap.size 24 (N7 40 0 0 ⟨#[]⟩ ⟨#[]⟩ x1.2 (.slice A3 (([]:List Tr).length+1) c3)):=by rw [hW];exact ag.jC (ag.wr bq hgx (by omega) (.inr rfl)) _
 have zu:=aM.lt
 have kX:aN w3 (w1.heap.size+1) w1.heap.size (.slice A3 (([]:List Tr).length+1) c3) (([]:List Tr) ++ [u3]):=by rw [hW];exact hKx.setCell (.inr rfl) _
 rw [<-hW]
 clear hW yO hKx hgx eB hgo hsx
 have kE:=af hq3
 clear hq3
 go_wp2
 obtain ⟨_,_,_,_,_,_,_,sH,pg⟩:=aM.av
 refine Ch 9 7 8 1 E.b (w1.heap.size+1) w1.heap.size (·=w1.heap.size) 32 (fun i=>match i with|0=>.pointer (some ⟨w1.heap.size,6,none⟩)|1=>.slice A3 (([]:List Tr).length+1) c3|2=>.pointer (some ⟨E.b,0,none⟩)|3=>.pointer (some ⟨E.b,0,none⟩)|4=>.pointer (some ⟨E.b,0,none⟩)|5=>.pointer (some ⟨E.b,0,none⟩)|6=>.func (Fn.func 62) #[.pointer (some ⟨E.b,0,none⟩)] #[]|_=>undef) (.slice A3 (([]:List Tr).length+1) c3) (([]:List Tr) ++ [u3]) 91 #[.pointer (some ⟨E.b,0,none⟩),.string ⟨#[123]⟩,.string ⟨#[125]⟩,.func (Fn.func 62) #[.pointer (some ⟨E.b,0,none⟩)] #[]] (oO r) (Cg E o _ r) (by kernel_rfl) rfl (by kernel_rfl) (by decide) (by decide) (by decide) (by decide) (by decide) (by decide) rfl rfl rfl rfl ⟨_,rfl,rfl⟩ rfl (by kernel_rfl) (by kernel_rfl) rfl
  (fun a w hev=>by
   have e4:=hev 4 _ _ (by omega) rfl rfl (by kernel_rfl) (by omega) (by omega)
   have e6:=hev 6 _ _ (by omega) rfl rfl (by kernel_rfl) (by omega) (by omega)
   simp [Act.eval] at e4 e6
   unfold execOp;go_simp)
  (fun i o hoi hi h1 h2 a w hcw hun hev=>by
   rcases (show i=0\/i=1\/i=2\/i=3\/i=4\/i=5\/i=6\/i=7\/i=8 by omega) with rfl|rfl|rfl|rfl|rfl|rfl|rfl|rfl|rfl
   ·obtain rfl:=Option.some.inj hoi;exact sZ _ _ _ _ _ _ _ _ ((hun 3 (fD (by kernel_rfl))).trans rfl)
   ·obtain rfl:=Option.some.inj hoi;exact vF _ _ _ _ _ _ _ _ 6 _ (hev 0 _ _ (by omega) rfl rfl (by kernel_rfl)) hcw
   ·obtain rfl:=Option.some.inj hoi;exact qd _ _ _ _ _ _ _ _ ((hun 0 (fD (by kernel_rfl))).trans rfl)
   ·obtain rfl:=Option.some.inj hoi;exact AU _ _ _ _ _ _ _ _ (hev 2 _ _ (by omega) rfl rfl (by kernel_rfl))
   ·obtain rfl:=Option.some.inj hoi;exact xy _ _ _ _ _ _ _ _ (hev 3 _ _ (by omega) rfl rfl (by kernel_rfl))
   ·obtain rfl:=Option.some.inj hoi;exact qd _ _ _ _ _ _ _ _ ((hun 0 (fD (by kernel_rfl))).trans rfl)
   ·obtain rfl:=Option.some.inj hoi;exact ade _ _ _ _ _ _ _ _ _ (hev 5 _ _ (by omega) rfl rfl (by kernel_rfl))
   ·exact absurd rfl h1
   ·exact absurd rfl h2)
  (fun i hi h1 h2=>by
   rcases (show i=0\/i=1\/i=2\/i=3\/i=4\/i=5\/i=6\/i=7\/i=8 by omega) with rfl|rfl|rfl|rfl|rfl|rfl|rfl|rfl|rfl <;> first|exact absurd rfl h1|exact absurd rfl h2|exact ⟨by kernel_rfl,by kernel_rfl⟩) ⟨by kernel_rfl,by kernel_rfl⟩
  rfl (by decide) (by decide) rfl rfl (by kernel_rfl) (by kernel_rfl) (by kernel_rfl) (by kernel_rfl) rfl kX kX.p (fun q hq=>by omega) sH (pg 6) (by omega) (by omega) (by omega) (by omega) (by simp [cK]) (uk E _ o _ r (by omega) (by omega))
  ((Hn.within .expr E _ l3 o [123] [125] _ _ _ r _ rfl hP3.drew rfl rfl (by simp) (by simp) kE.out HR.out).mono fun e w' h=>Jn h) ?_ ?_
 ·rintro a w' c had ⟨at_,k,hb,rfl⟩ hg
  exact And.intro had ⟨hG3.trans hg,.inl ⟨_,_,hb,rfl⟩⟩
 rintro vals w' A4 c4 us ⟨l4,hq4,yO⟩ abJ hKx yz hgx eB
 obtain ⟨w4,hW⟩:=uj (w'.setCell ⟨w1.heap.size,6,none⟩ (.slice A4 ((([]:List Tr) ++ [u3]) ++ us).length c4))
 have qm:PS E w4 l4 o:=by rw [hW];exact aO
 have hsx:=hgx.size
 have hG4:Gr (·=E.b) w w4:=by rw [hW];exact Gr.setCell (o7 hG3 hgx (by omega)) (.inl (by first|(simp;done)|(simp;omega))) _
 have aK:ag w4 w.heap.size 24 Z7:=by rw [hW];exact ag.far (ag.wr aF hgx (by omega) (.inl (by omega))) (by first|(simp;done)|(simp;omega)) _
 have aW:ag w4 w1.heap.size 24 (N7 40 0 0 ⟨#[]⟩ ⟨#[]⟩ x1.2 (.slice A4 ((([]:List Tr) ++ [u3]) ++ us).length c4)):=by rw [hW];exact ag.jC (ag.wr aM hgx (by omega) (.inr rfl)) _
 have qo:aN w4 (w1.heap.size+1) w1.heap.size (.slice A4 ((([]:List Tr) ++ [u3]) ++ us).length c4) ((([]:List Tr) ++ [u3]) ++ us):=by rw [hW];exact hKx.setCell (.inr rfl) _
 dsimp only [bG,List.take_succ_cons,List.take_zero,List.take_nil]
 rw [<-hW]
 clear hW yO hKx yz hgx eB hsx
 have tH:=af hq4
 clear hq4
 obtain ⟨_,Ck,Dp,EB,EC,ED,EE,xJ,_⟩:=aW.av
 obtain ⟨_,wO,xC,xD,xE,xG,xH,xI,wP⟩:=aK.av
 go_wp2
 have Uy:=abJ
 unfold cK at Uy
 exact aX Tryz.results143 rfl rfl dS ⟨aJ,.inr ⟨40,0,0,[],[],x1.2,((([]:List Tr) ++ [u3]) ++ us),A4,c4,l4,rfl,tH.out,aI.mono (lo:=w1.heap.size+1) (v:=.slice A4 ((([]:List Tr) ++ [u3]) ++ us).length c4) (ks:=((([]:List Tr) ++ [u3]) ++ us)) (aN.kid (h:=w1.heap.size) oZ) (by omega),(by simp [cK];omega),aO⟩⟩
theorem Us (n:Nat) (hn:n<=cK) (H:∀m,m<=n->ku m) (kk:Int):C1m (n+1) 109 kk (.leap kk):=by
 intro E w l o g r hm hP hq hr
 simp only [go,eH,fC,dM] at hq
 have hlt:=hP.lt
 have hgt:=hP.toks.lt
 obtain ⟨x1,l1,rfl⟩:=hP.cons
 have HX:=af (iB hP.good hm)
 rw [bH] at hq
 have fG:=af hq
 clear hr hq hm
 go_enter Tryz.func109,Tryz.ntmps109
 go_wp2_with (first
  |(go_at_call 39;refine (iK E _ x1 l1 o aO HX.out).mono ?_;rintro e w1 ⟨rfl,hg1,hP1⟩;have hG1:=o8 w hg1;have az:ag w1 w.heap.size 24 Z7:=bU hg1)
  |(go_at_call 18;refine (bT E _ l1 o [59] _ _ _ aO rfl (by simp) fG.out).mono ?_;rintro e w2 ⟨hg2,⟨a,k,hb,rfl⟩|⟨x2,l2,rfl,hq2,hP2⟩⟩;exact iG (Gr.trans aJ hg2) hb;have hG2:=bQ hG1 hg2;have fJ:=af hq2;clear hq2;have ax:=aD az hg2;obtain ⟨_,lJ,lK,lM,lN,lQ,lS,lT,lU⟩:=ax.av))
 exact aX Tryz.results109 rfl rfl dS ⟨aJ,.inr ⟨kk,0,0,[],[],x1.2,[],none,0,l2,rfl,fJ.out,aI.nil _ _ 0,by simp,aO⟩⟩
theorem KR (n:Nat) (hn:n<=cK) (H:∀m,m<=n->ku m):C0 (n+1) 69 .lY:=by
 intro E w l o g r hP hq hr
 simp only [go,jr,fC,eD,dG,dM] at hq
 have hlt:=hP.lt
 have hgt:=hP.toks.lt
 have HR:=af hr
 have Hn:=H n (Nat.le_refl _)
 clear hr
 have fZ:=af hq
 clear hq
 go_enter Tryz.func69,Tryz.ntmps69
 go_wp2_with (first
  |(go_at_call 19;refine (jd E _ l o _ _ aO fZ.out).mono ?_;rintro e w1 ⟨hg1,⟨a,k,hb,rfl⟩|⟨x1,l1,rfl,hq1,hP1⟩⟩;exact iG (Gr.trans aJ hg1) hb;have hG1:=o8 w hg1;have fG:=af hq1;clear hq1;have kW:=hP1.lt;have oP:=hP1.toks.lt;have hs1:=hg1.size;(try simp at hs1);have az:ag w1 w.heap.size 24 Z7:=bU hg1))
 by_cases hm:mark l1=[97,110,121]
 ·skip
  have eY:=fG.out
  rw [if_pos hm] at eY
  have HM:=af hm
  clear fG hm
  have fG:=af eY
  clear eY
  go_wp2_with (first
   |(go_at_call 20;refine (qc E _ l1 o [97,110,121] _ aO rfl (by simp) HM.out).mono ?_;rintro e w2 ⟨rfl,hg2,xs,l2,Lp,hP2⟩;have hG2:=bQ hG1 hg2;have hq2:=fG.out;rw [Lp,bH] at hq2;have fJ:=af hq2;clear hq2 Lp;have ax:=aD az hg2;obtain ⟨_,lJ,lK,lM,lN,lQ,lS,lT,lU⟩:=ax.av;have bq:ag w2 (w1.heap.size+1) 24 (N7 11 0 0 ⟨#[]⟩ (bs x1.1.t) x1.2 (.slice none 0 0)):=bU hg2;obtain ⟨_,YL,abF,abG,abH,U8,YM,sG,_⟩:=bq.av;have kY:aN w2 (w1.heap.size+2) (w1.heap.size+1) (.slice none 0 0) ([]:List Tr):=rO hg2))
  exact aX Tryz.results69 rfl rfl dS ⟨aJ,.inr ⟨11,0,0,[],x1.1.t,x1.2,[],none,0,l2,rfl,fJ.out,aI.mono (lo:=w1.heap.size+2) (v:=.slice none 0 0) (ks:=([]:List Tr)) (aN.kid (h:=w1.heap.size+1) oZ) (by omega),(by simp [cK]),aO⟩⟩
 have eY:=fG.out
 rw [if_neg hm] at eY
 have hma:=af hm
 clear fG hm
 have fG:=af eY
 clear eY
 by_cases hm:mark l1=[99,111,109,112,97,114,97,98,108,101]
 ·skip
  have eY:=fG.out
  rw [if_pos hm] at eY
  have HM:=af hm
  clear fG hm
  have fG:=af eY
  clear eY
  go_wp2_with (first
   |((fail_if_success (have:=hg2));go_at_call 20;((with_reducible refine (rA E _ l1 o [97,110,121] ⟨#[97,110,121]⟩ aO rfl hma.out).mono ?_);rintro e w2 ⟨rfl,hg2⟩);have hP2:PS E w2 l1 o:=PS.below aO hg2;have hG2:=aL hG1 hg2;have ax:=bV az hg2;have bq:ag w2 (w1.heap.size+1) 24 (N7 11 0 0 ⟨#[]⟩ (bs x1.1.t) x1.2 (.slice none 0 0)):=ag.aC bz hg2;have kY:aN w2 (w1.heap.size+2) (w1.heap.size+1) (.slice none 0 0) ([]:List Tr):=aN.aC oZ hg2)
   |(go_at_call 20;refine (qc E _ l1 o [99,111,109,112,97,114,97,98,108,101] _ aO rfl (by simp) HM.out).mono ?_;rintro e w3 ⟨rfl,hg3,xs,l3,LG,hP3⟩;have hG3:=bQ hG2 hg3;have hq3:=fG.out;rw [LG,bH] at hq3;have kE:=af hq3;clear hq3 LG;have aF:=aD ax hg3;obtain ⟨_,vM,wQ,wR,wS,wT,wU,wV,vN⟩:=aF.av;have aM:=aD bq hg3;obtain ⟨_,yP,Jr,EL,Jp,GL,GM,sH,pg⟩:=aM.av;have kX:aN w3 (w1.heap.size+2) (w1.heap.size+1) (.slice none 0 0) ([]:List Tr):=rO hg3))
  exact aX Tryz.results69 rfl rfl dS ⟨aJ,.inr ⟨11,0,1,[],x1.1.t,x1.2,[],none,0,l3,rfl,kE.out,aI.mono (lo:=w1.heap.size+2) (v:=.slice none 0 0) (ks:=([]:List Tr)) (aN.kid (h:=w1.heap.size+1) oZ) (by omega),(by simp [cK]),aO⟩⟩
 ·skip
  have eY:=fG.out
  rw [if_neg hm] at eY
  have HM:=af hm
  clear fG hm
  have fG:=af eY
  clear eY
  have hmc:=HM
  clear HM
  go_wp2_with (first
   |((fail_if_success (have:=hg2));go_at_call 20;((with_reducible refine (rA E _ l1 o [97,110,121] ⟨#[97,110,121]⟩ aO rfl hma.out).mono ?_);rintro e w2 ⟨rfl,hg2⟩);have hP2:PS E w2 l1 o:=PS.below aO hg2;have hG2:=aL hG1 hg2;have ax:=bV az hg2;have bq:ag w2 (w1.heap.size+1) 24 (N7 11 0 0 ⟨#[]⟩ (bs x1.1.t) x1.2 (.slice none 0 0)):=ag.aC bz hg2;have kY:aN w2 (w1.heap.size+2) (w1.heap.size+1) (.slice none 0 0) ([]:List Tr):=aN.aC oZ hg2)
   |(go_at_call 20;((with_reducible refine (rA E _ l1 o [99,111,109,112,97,114,97,98,108,101] ⟨#[99,111,109,112,97,114,97,98,108,101]⟩ aO rfl hmc.out).mono ?_);rintro e w3 ⟨rfl,hg3⟩);have hP3:=NN hP2 hg3;have hG3:=aL hG2 hg3;have aF:=bV ax hg3;have uX:=aF.lt;have aM:=bV bq hg3;obtain ⟨_,_,_,EL,_,_,_,_,pg⟩:=aM.av)
   |(go_at_call 90;refine (Hn.typeName E _ l1 o _ r aO fG.out HR.out).mono ?_;rintro e w4 ⟨hg4,⟨a,k,hb,rfl⟩|⟨k4,Cn,m4,p4,t4,a4,BQ,A4,c4,l4,rfl,hq4,Bo,_,qm⟩⟩;exact iG (Gr.trans aJ hg4) hb;have hG4:=bQ hG3 hg4;have tH:=af hq4;clear hq4;have hs4:=hg4.size;(try simp at hs4);have aK:=aD aF hg4;have Fb:=aK.lt;obtain ⟨_,wO,xC,xD,xE,xG,xH,xI,wP⟩:=aK.av;have aW:ag w4 (w1.heap.size+1) 24 (N7 11 0 2 ⟨#[]⟩ (bs x1.1.t) x1.2 (.slice none 0 0)):=bU hg4;have Q4:=aW.lt;obtain ⟨_,Ck,Dp,EB,EC,ED,EE,xJ,Dq⟩:=aW.av;have Bo:=aI.mono (lo':=w3.heap.size+0) Bo (by simp)))
  exact aX Tryz.results69 rfl rfl dS ⟨aJ,.inr ⟨11,0,2,[],x1.1.t,x1.2,[Tr.mk k4 Cn m4 p4 t4 a4 BQ],some ⟨w4.heap.size,0,none⟩,1,l4,rfl,tH.out,aI.mono (lo:=w3.heap.size+0) (aI.oW (k:=k4) (op:=Cn) (m:=m4) (p:=p4) (t:=t4) (a:=a4) (A:=A4) (c:=c4) nS (by simp;omega) (by simp)) (by omega),by simp [cK],aO⟩⟩
theorem Ut {E:Env} {w:World} {l:List T} {o:Nat} {k:Int} {f:T->List T->R} {r:R} (hP:PS E w l o) (hq:fu k l f=r):
  fu k l (fun y t=>if 0<=y.1.n/\y.1.n<=9223372036854775807 then f y t else .out)=r:=by
 obtain ⟨x,t,rfl⟩:=hP.cons
 have hn:=hP.num
 rw [<-hq]
 unfold fu
 rw [yx]
 by_cases hkd:x.1.k=k
 ·rw [if_pos hkd,if_pos hkd,bH,bH,if_pos hn]
 ·rw [if_neg hkd,if_neg hkd]
theorem X4 {n:Int} (h:0<=n) (h2:n<=9223372036854775807):wrap64 (-n)= -n:=by
 simp only [wrap64];omega
theorem Hw (n:Nat) (hn:n<=cK) (H:∀m,m<=n->ku m):C0 (n+1) 41 .constant:=by
 intro E w l o g r hP hq hr
 simp only [go,eH,jr,fC,eD,dM] at hq
 have hlt:=hP.lt
 have hgt:=hP.toks.lt
 have HR:=af hr
 clear hr
 have fZ:=af hq
 clear hq
 go_enter Tryz.func41,Tryz.ntmps41
 go_wp2_with (first
  |((fail_if_success (have:=hg1));go_at_call 18;(with_reducible refine (bT E _ l o [99,111,110,115,116] ⟨#[99,111,110,115,116]⟩ _ _ aO rfl (by simp) fZ.out).mono ?_);rintro e w1 ⟨hg1,⟨a,k,hb,rfl⟩|⟨x1,l1,rfl,hq1,hP1⟩⟩;exact iG (Gr.trans aJ hg1) hb;have hG1:=o8 w hg1;have fG:=af hq1;clear hq1;have az:ag w1 w.heap.size 24 Z7:=bU hg1)
  |(go_at_call 19;(with_reducible refine (jd E _ l1 o _ _ aO fG.out).mono ?_);rintro e w2 ⟨hg2,⟨a,k,hb,rfl⟩|⟨x2,l2,rfl,hq2,hP2⟩⟩;exact iG (Gr.trans aJ hg2) hb;have hG2:=bQ hG1 hg2;have fJ:=af hq2;clear hq2;have ou:=hP2.lt;have ax:=aD az hg2)
  |(go_at_call 18;(with_reducible refine (bT E _ l2 o [61] ⟨#[61]⟩ _ _ aO rfl (by simp) fJ.out).mono ?_);rintro e w3 ⟨hg3,⟨a,k,hb,rfl⟩|⟨x3,l3,rfl,hq3,hP3⟩⟩;exact iG (Gr.trans aJ hg3) hb;have hG3:=bQ hG2 hg3;have kE:=af hq3;clear hq3;have aF:=aD ax hg3;have tJ:ag w3 w2.heap.size 53 (T4 x2.1.k (bs x2.1.t) x2.1.n x2.2):=bU hg3))
 by_cases hm:mark l3=[45]
 ·skip
  have eY:=kE.out
  rw [if_pos hm] at eY
  have HM:=af hm
  clear kE hm
  have kE:=af eY
  clear eY
  go_wp2_with (first
   |(go_at_call 20;refine (qc E _ l3 o [45] _ aO rfl (by simp) HM.out).mono ?_;rintro e w4 ⟨rfl,hg4,xs,l4,X0,qm⟩;have hG4:=bQ hG3 hg4;have hq4:=kE.out;rw [X0,bH] at hq4;have tH:=af hq4;clear hq4 X0;have aK:=aD aF hg4;have sj:=aD tJ hg4)
   |(go_at_call 40;(with_reducible refine (Ce E _ l4 o 3 _ _ aO (by simp) (Ut qm tH.out)).mono ?_);rintro e w5 ⟨hg5,⟨a,k,hb,rfl⟩|⟨x5,l5,rfl,rC,wX⟩⟩;exact iG (Gr.trans aJ hg5) hb;have iw:=bQ hG4 hg5;dsimp only at rC;have ac5:0<=x5.1.n/\x5.1.n<=9223372036854775807:=(Decidable.byContradiction fun hc=>HR.out (by rw [if_neg hc] at rC;exact rC.symm));have ac6:=rC;rw [if_pos ac5] at ac6;have yQ:=af ac6;clear rC ac6;have ann:wrap64 (-x5.1.n)= -x5.1.n:=(X4 ac5.1 ac5.2);have aT:=aD aK hg5;have De:=aD sj hg5)
   |(go_at_call 18;(with_reducible refine (bT E _ l5 o [59] ⟨#[59]⟩ _ _ aO rfl (by simp) yQ.out).mono ?_);rintro e w6 ⟨dA,⟨a,k,hb,rfl⟩|⟨x6,l6,rfl,r9,yC⟩⟩;exact iG (Gr.trans aJ dA) hb;have iX:=bQ iw dA;have Cm:=af r9;clear r9;have bn:=aD aT dA;have IK:=bn.lt;obtain ⟨_,Jw,Jy,Jz,JC,JF,JG,JH,JI⟩:=bn.av;have zx:=aD De dA;have agx:=zx.lt;obtain ⟨_,_,aix,_,aiy,_⟩:=zx.jX;have abp:w.heap.size < w6.heap.size+3:=(by omega)))
  exact aX Tryz.results41 rfl rfl dS ⟨aJ,.inr ⟨3,0,-x5.1.n,[],x2.1.t,x2.2,[],none,0,l6,rfl,Cm.out,aI.nil _ _ 0,by simp,aO⟩⟩
 ·skip
  have eY:=kE.out
  rw [if_neg hm] at eY
  have HM:=af hm
  clear kE hm
  have kE:=af eY
  clear eY
  go_wp2_with (first
   |(go_at_call 20;refine (rA E _ l3 o [45] _ aO rfl HM.out).mono ?_;rintro e w4 ⟨rfl,hg4⟩;have qm:PS E w4 l3 o:=PS.below aO hg4;have hG4:=aL hG3 hg4;have aK:=bV aF hg4;have sj:=bV tJ hg4)
   |(go_at_call 40;(with_reducible refine (Ce E _ l3 o 3 _ _ aO (by simp) kE.out).mono ?_);rintro e w5 ⟨hg5,⟨a,k,hb,rfl⟩|⟨x5,l5,rfl,rC,wX⟩⟩;exact iG (Gr.trans aJ hg5) hb;have iw:=bQ hG4 hg5;have yQ:=af rC;clear rC;have aT:=aD aK hg5;have De:=aD sj hg5)
   |(go_at_call 18;(with_reducible refine (bT E _ l5 o [59] ⟨#[59]⟩ _ _ aO rfl (by simp) yQ.out).mono ?_);rintro e w6 ⟨dA,⟨a,k,hb,rfl⟩|⟨x6,l6,rfl,r9,yC⟩⟩;exact iG (Gr.trans aJ dA) hb;have iX:=bQ iw dA;have Cm:=af r9;clear r9;have bn:=aD aT dA;have IK:=bn.lt;obtain ⟨_,Jw,Jy,Jz,JC,JF,JG,JH,JI⟩:=bn.av;have zx:=aD De dA;have agx:=zx.lt;obtain ⟨_,_,aix,_,aiy,_⟩:=zx.jX;have abp:w.heap.size < w6.heap.size+3:=(by omega)))
  exact aX Tryz.results41 rfl rfl dS ⟨aJ,.inr ⟨3,0,x5.1.n,[],x2.1.t,x2.2,[],none,0,l6,rfl,Cm.out,aI.nil _ _ 0,by simp,aO⟩⟩
end
theorem all_zero:ku 0:=by
 constructor <;> (first|unfold C0|unfold C0m|unfold CC|unfold CT|unfold CH|unfold CW|unfold CL|unfold C1|unfold C1m) <;> (intros;exact (‹_≠R.out› (Eq.symm ‹bnd (go 0 _ _ _) _=_›)).elim)
theorem all_succ (n:Nat) (hn:n<=cK) (H:∀m,m<=n->ku m):ku (n+1) where
 expr:=Qp n hn H
 oq:=EI n hn H
 key:=X3 n hn H
 call:=Sw n hn H
 indexed:=Ju n hn H
 lZ:=GN n hn H
 first:=Lr n hn H
 jW:=EH n hn H
 jB:=D6 n hn H
 iT:=CR n hn H
 iU:=Co n hn H
 kR:=GR n hn H
 block:=Ng n hn H
 stat:=NR n hn H
 branch:=Nh n hn H
 otherwise:=Gs n hn H
 loop:=Uq n hn H
 nD:=Ht n hn H
 define:=LP n hn H
 simple:=JL n hn H
 param:=Qq n hn H
 typeOf:=LK n hn H
 typeName:=GK n hn H
 decl:=Qr n hn H
 constant:=Hw n hn H
 kT:=Bp n hn H
 field:=Qs n hn H
 sig:=VB n hn H
 kU:=Bq n hn H
 receiver:=Hu n hn H
 lY:=KR n hn H
 unary:=LF n hn H
 within:=LJ n hn H
 list:=SS n hn H
 head:=SY n hn H
 dh:=Gt n hn H
 binary:=fun k h1 h2=>LD n hn H k h1 h2
 named:=fun k=>Qt n hn H k
 leap:=fun k=>Us n hn H k
theorem agy:∀n:Nat,n<=cK->ku n:=by
 intro n
 induction n using Nat.strongRecOn with
 |_ n ih=>
  intro hn
  cases n with
  |zero=>exact all_zero
  |succ n=>exact all_succ n (by omega) fun m hm=>ih m (by omega) (by omega)
theorem X5 (n:Nat) (hn:n<=cK):CF (n+1):=Ta n hn fun m hm=>agy m (by omega)
theorem I1:∀(N:Nat) (t:Tr),t.nodes<=N->N<=20000->∀(w:World) (F:Nat->Prop) (vs:List Value),nW w F t vs->
  Calls Tryz.prog 23 #[.agg vs.toArray] w fun e w'=>e= .returned (.tuple #[.int .i64 t.nodes,.int .i64 t.deep])/\Below w.heap.size w w'
 |0,t,ht,_,_,_,_,_=>by have:=oF t;omega
 |N+1,.mk k op m p tx a ks,ht,hN,w,F,vs,hr=>by
  have ih:=I1 N
  simp only [nW] at hr
  obtain ⟨A,c,xs,rfl,hrow,RY⟩:=hr
  rw [nJ] at ht
  have hnt:(Tr.mk k op m p tx a ks).nodes=cZ ks+1:=nJ ..
  have hdt:(Tr.mk k op m p tx a ks).deep=nI ks+1:=by simp only [Tr.deep]
  rw [hnt,hdt]
  have hdl:=yj ks
  clear hnt hdt
  show Calls Tryz.prog 23 #[.agg #[.int .i64 k,.int .i64 op,.int .i64 m,.string (bs p),.string (bs tx),.int .i64 a,.slice A ks.length c]] w _
  go_enter Tryz.func23,Tryz.ntmps23
  go_wp2
  go_loopg [2,3,11] ks.length (fun gk v2 v3 v11 wr=>∃j:Nat,j+gk=ks.length/\v11= .int .i64 j/\v2= .int .i64 (cZ (ks.take j))/\v3= .int .i64 (nI (ks.take j))/\Below w.heap.size w wr)
  case atStart=>exact ⟨0,by simp,rfl,by simp [cZ],by simp [nI],(Below.refl _ _).alloc (Nat.le_refl _) _⟩
  case round=>
   obtain ⟨j,hj,rfl,rfl,rfl,hb⟩:=hrel
   cases gk with
   |zero=>
    obtain rfl:j=ks.length:=by omega
    rw [List.take_length]
    have n1:(cZ ks:Int)<=20000:=by omega
    have d1:(nI ks:Int)<=20000:=by omega
    clear hj
    go_wp2
    go_ret2
    exact ⟨rfl,hb⟩
   |succ f=>
    have hjl:j < ks.length:=by omega
    obtain ⟨u,hu⟩:=aS (ks[j])
    have rq:ks[j]? =some u:=by rw [<-hu];exact List.getElem?_eq_getElem hjl
    obtain ⟨vs,hrep,hat⟩:=RY.at j u rq
    obtain ⟨g,rfl,_,hgl,hcell,hfz⟩:=hrow.2 (by omega)
    have hnk:=yH ks j u rq
    have HN1:=af (uC ks j u rq)
    have HD1:=af (Ai ks j u rq)
    have HI:=af (show ∀w',Below w.heap.size w w'->_ from fun w' hb'=>ih u (by omega) (by omega) w' F vs (nW.keep (fun g _ hg=>hb'.block g hg) hb'.size (fun g _ h=>h) _ _ hrep))
    obtain ⟨k',op',m',p',t',a',n',c',A',rfl⟩:=hrep.shape
    have q0:=(hb.cell (p:=⟨g,j*7,none⟩) hgl).trans (hcell (j*7) _ (hat 0 _ rfl))
    have q1:=(hb.cell (p:=⟨g,j*7+1,none⟩) hgl).trans (hcell (j*7+1) _ (hat 1 _ rfl))
    have q2:=(hb.cell (p:=⟨g,j*7+2,none⟩) hgl).trans (hcell (j*7+2) _ (hat 2 _ rfl))
    have q3:=(hb.cell (p:=⟨g,j*7+3,none⟩) hgl).trans (hcell (j*7+3) _ (hat 3 _ rfl))
    have q4:=(hb.cell (p:=⟨g,j*7+4,none⟩) hgl).trans (hcell (j*7+4) _ (hat 4 _ rfl))
    have q5:=(hb.cell (p:=⟨g,j*7+5,none⟩) hgl).trans (hcell (j*7+5) _ (hat 5 _ rfl))
    have q6:=(hb.cell (p:=⟨g,j*7+6,none⟩) hgl).trans (hcell (j*7+6) _ (hat 6 _ rfl))
    have j0:(0:Int)<=(j:Int):=by omega
    have j1:(j:Int) < (ks.length:Int):=by omega
    have j2:(j:Int)<=20000:=by
     have:=yG ks
     omega
    have n1:(cZ (ks.take j):Int)<=20000:=by omega
    have n3:(u.nodes:Int)<=20000:=by omega
    clear hu rq hat hcell hfz hrep ih hrow RY
    go_wp2_with (go_at_call 23;refine (HI.out _ (Below.alloc hb hb.size _)).mono ?_;rintro e w5 ⟨rfl,hb5⟩)
    have Eb:Below w.heap.size w w5:=(Below.alloc hb hb.size _).trans (hb5.mono (by have:=hb.size;simp;omega))
    go_roundg f
    case measure=>omega
    case rel=>exact ⟨j+1,by omega,by go_num,by rw [HN1.out];exact congrArg (Value.int .i64) (by omega),by rw [HD1.out];exact congrArg (Value.int .i64) (by omega),Eb⟩
theorem Uu (t:Tr) (ht:t.nodes<=20000) (w:World) (F:Nat->Prop) (vs:List Value) (hr:nW w F t vs):
  Calls Tryz.prog 12 #[.agg vs.toArray] w fun e w'=>Below w.heap.size w w'/\e=if 3000 < t.nodes then (.panicked [{ v:=.iface 38 (.agg #[.int .i64 0,.int .i64 2]),recovered:=false }]) else if 100 < t.deep then (.panicked [{ v:=.iface 38 (.agg #[.int .i64 0,.int .i64 3]),recovered:=false }]) else .returned (.tuple #[]):=by
 have hd:=KA t
 have HI:=af (fun w' (hb:Below w.heap.size w w')=>I1 20000 t ht (Nat.le_refl _) w' F vs (nW.keep (fun g _ hg=>hb.block g hg) hb.size (fun g _ h=>h) _ _ hr))
 obtain ⟨k,op,m,p,tx,a,n,c,A,rfl⟩:=hr.shape
 have d1:(t.deep:Int)<=20000:=by omega
 clear hr
 show Calls Tryz.prog 12 #[.agg #[.int .i64 k,.int .i64 op,.int .i64 m,.string (bs p),.string (bs tx),.int .i64 a,.slice A n c]] w _
 by_cases h1:3000 < t.nodes
 ·rw [if_pos h1]
  have hc:(3000:Int) < (t.nodes:Int):=by omega
  go_enter Tryz.func12,Tryz.ntmps12
  go_wp2_with (go_at_call 23;refine (HI.out _ (by first|exact Below.refl _ _|exact (Below.refl _ _).alloc (Nat.le_refl _) _)).mono ?_;rintro e w1 ⟨rfl,hb1⟩)
  have hB1:Below w.heap.size w w1:=((Below.refl _ w).alloc (Nat.le_refl _) _).trans (hb1.mono (by simp))
  exact ⟨rfl,hB1,rfl⟩
 rw [if_neg h1]
 have hc:¬(3000:Int) < (t.nodes:Int):=by omega
 by_cases h2:100 < t.deep
 ·rw [if_pos h2]
  have hc2:(100:Int) < (t.deep:Int):=by omega
  go_enter Tryz.func12,Tryz.ntmps12
  go_wp2_with (go_at_call 23;refine (HI.out _ (by first|exact Below.refl _ _|exact (Below.refl _ _).alloc (Nat.le_refl _) _)).mono ?_;rintro e w1 ⟨rfl,hb1⟩)
  have hB1:Below w.heap.size w w1:=((Below.refl _ w).alloc (Nat.le_refl _) _).trans (hb1.mono (by simp))
  exact ⟨rfl,hB1,rfl⟩
 ·rw [if_neg h2]
  have hc2:¬(100:Int) < (t.deep:Int):=by omega
  go_enter Tryz.func12,Tryz.ntmps12
  go_wp2_with (go_at_call 23;refine (HI.out _ (by first|exact Below.refl _ _|exact (Below.refl _ _).alloc (Nat.le_refl _) _)).mono ?_;rintro e w1 ⟨rfl,hb1⟩)
  have hB1:Below w.heap.size w w1:=((Below.refl _ w).alloc (Nat.le_refl _) _).trans (hb1.mono (by simp))
  go_end0
  exact ⟨hB1,rfl⟩
def Qx (w:World) (p:PR) (e:Ending) (w':World):Prop:=
 Below w.heap.size w w'/\((∃t vs,p= .tree t/\nW w' (Fp w.heap.size) t vs/\e= .returned (.tuple #[.agg vs.toArray,.int .i64 0,.int .i64 0]))\/
  ∃(a:Nat) (k:Int),p= .fault a k/\e= .returned (.tuple #[.agg #[.int .i64 0,.int .i64 0,.int .i64 0,.string ⟨#[]⟩,.string ⟨#[]⟩,.int .i64 0,.slice none 0 0],.int .i64 a,.int .i64 k]))
theorem Uv (s:ByteArray) (p:Nat) (k:Int) (w:World) (ht:qF w) (h:oH s.data.toList=([],p,k)) (hk:k=2\/k=5):
  Calls Tryz.prog 4 #[.string s] w (Qx w (.fault p k)):=by
 have HT:=af ht
 have HH:=af h
 have hne:(k != 0)=true:=by rcases hk with rfl|rfl <;> rfl
 clear ht h hk
 go_enter_defers Tryz.func4,Tryz.ntmps4
 go_wp2_with (go_at_call 9;refine (YD _ p k _ (((HT.out.alloc _).alloc _).alloc _) HH.out).mono ?_;rintro e w1 ⟨A,c,rfl,hb1⟩;have az:ag w1 w.heap.size 24 Z7:=ag.aC bz hb1;have zG:ag w1 (w.heap.size+1) 3 #[.int .i64 0]:=ag.aC bz hb1;have zH:ag w1 (w.heap.size+2) 25 #[.int .i64 0]:=ag.aC bz hb1;have q1:=zG.cell 0;have f1:=zG.frozen 0;have q2:=zH.cell 0;have f2:=zH.frozen 0)
 have yX:w.heap.size≠w.heap.size+1:=by omega
 have yY:w.heap.size≠w.heap.size+1+1:=by omega
 have X6:w.heap.size+1≠w.heap.size+1+1:=by omega
 obtain ⟨V,hV⟩:=uj ((w1.setCell ⟨w.heap.size+1,0,none⟩ (.int .i64 p)).setCell ⟨w.heap.size+1+1,0,none⟩ (.int .i64 k))
 have v2:ag V w.heap.size 24 Z7:=by rw [hV];exact ag.far (ag.far az yX _) yY _
 have v3:ag V (w.heap.size+1) 3 #[.int .i64 p]:=by rw [hV];exact ag.far (zG.ny 0 (.int .i64 p)) X6 _
 have v4:ag V (w.heap.size+1+1) 25 #[.int .i64 k]:=by rw [hV];exact (ag.far (p:=⟨w.heap.size+1,0,none⟩) zH X6.symm (.int .i64 p)).ny 0 (.int .i64 k)
 have hB:Below w.heap.size w V:=by rw [hV];exact ((((((Below.refl _ w).alloc (Nat.le_refl _) _).alloc (by simp) _).alloc (by simp;omega) _).trans (hb1.mono (by simp;omega))).setCell (by simp) _).setCell (by simp;omega) _
 rw [<-hV]
 clear hV az zG zH q1 f1 q2 f2 hb1
 refine Code.wp_mono (Q:=fun e a' w'=>e= .normal/\a'.defers=[]/\a'.tmps.getD 2 undef= .pointer (some ⟨w.heap.size,0,none⟩)/\a'.tmps.getD 3 undef= .pointer (some ⟨w.heap.size+1,0,none⟩)/\a'.tmps.getD 4 undef= .pointer (some ⟨w.heap.size+1+1,0,none⟩)/\ag w' w.heap.size 24 Z7/\ag w' (w.heap.size+1) 3 #[.int .i64 p]/\ag w' (w.heap.size+1+1) 25 #[.int .i64 k]/\Below w.heap.size w w') ?_ ?_
 ·rintro e a' w' ⟨rfl,hd,t2,t3,t4,b2,b3,b4,hB'⟩
  go_wp2
  obtain ⟨tm,df⟩:=a'
  simp only at hd t2 t3 t4
  subst hd
  exact ⟨_,CU tm w' _ _ _ _ _ _ _ _ _ _ _ _ t2 t3 t4 b2 b3 b4,hB',.inr ⟨p,k,rfl,rfl⟩⟩
 ·have GJ:=v3.lt
  refine wp_region_held_drew (S:=fun W=>ag W (w.heap.size+1) 3 #[.int .i64 p]/\ag W (w.heap.size+1+1) 25 #[.int .i64 k]) (by kernel_rfl) ⟨v3.drew,v4.drew⟩ (fun hS0=>?_)
  refine wpAnyH_take (i:=0) (v:=.agg #[.int .i64 0,.int .i64 0,.int .i64 0,.string ⟨#[]⟩,.string ⟨#[]⟩,.int .i64 0,.slice none 0 0]) rfl (by kernel_rfl) (by kernel_rfl) (by kernel_rfl) (fun _ _ _ h=>by cases h.1) (Or.inl ⟨rfl,fun w' hS=>by (unfold execOp;go_simp)⟩) hS0 ?_
  simp only [Act.put,gA,gB,gC,gD,gE,gF]
  refine wpAnyH_take (i:=1) (v:=.int .i64 p) rfl (by kernel_rfl) (by kernel_rfl) (by kernel_rfl) (fun _ _ _ h=>by cases h.1) (Or.inl ⟨rfl,fun w' hS=>by (have s0:=hS.1.cell 0;unfold execOp;go_simp)⟩) hS0 ?_
  simp only [Act.put,gA,gB,gC,gD,gE,gF]
  refine wpAnyH_take (i:=2) (v:=.int .i64 k) rfl (by kernel_rfl) (by kernel_rfl) (by kernel_rfl) (fun _ _ _ h=>by cases h.1) (Or.inl ⟨rfl,fun w' hS=>by (have s0:=hS.2.cell 0;unfold execOp;go_simp)⟩) hS0 ?_
  simp only [Act.put,gA,gB,gC,gD,gE,gF]
  have v2:=v2.drew
  have v3:=v3.drew
  have v4:=v4.drew
  have hB:=hB.drew
  generalize V.drew=W at*
  have q0:=v2.cell 0
  have q1:=v2.cell 1
  have q2:=v2.cell 2
  have q3:=v2.cell 3
  have q4:=v2.cell 4
  have q5:=v2.cell 5
  have q6:=v2.cell 6
  have qf:=v2.frozen
  refine oI 3 rfl (CS (w':=((((((W.setCell ⟨w.heap.size,0,none⟩ (.int .i64 0)).setCell ⟨w.heap.size,1,none⟩ (.int .i64 0)).setCell ⟨w.heap.size,2,none⟩ (.int .i64 0)).setCell ⟨w.heap.size,3,none⟩ (.string ⟨#[]⟩)).setCell ⟨w.heap.size,4,none⟩ (.string ⟨#[]⟩)).setCell ⟨w.heap.size,5,none⟩ (.int .i64 0)).setCell ⟨w.heap.size,6,none⟩ (.slice none 0 0)) (by unfold execOp;go_simp) (And.intro ⟨?_,?_⟩ ?_) rfl)
  ·exact ag.far (ag.far (ag.far (ag.far (ag.far (ag.far (ag.far v3 yX.symm _) yX.symm _) yX.symm _) yX.symm _) yX.symm _) yX.symm _) yX.symm _
  ·exact ag.far (ag.far (ag.far (ag.far (ag.far (ag.far (ag.far v4 yY.symm _) yY.symm _) yY.symm _) yY.symm _) yY.symm _) yY.symm _) yY.symm _
  obtain ⟨W5,hW5⟩:=uj (((((((W.setCell ⟨w.heap.size,0,none⟩ (.int .i64 0)).setCell ⟨w.heap.size,1,none⟩ (.int .i64 0)).setCell ⟨w.heap.size,2,none⟩ (.int .i64 0)).setCell ⟨w.heap.size,3,none⟩ (.string ⟨#[]⟩)).setCell ⟨w.heap.size,4,none⟩ (.string ⟨#[]⟩)).setCell ⟨w.heap.size,5,none⟩ (.int .i64 0)).setCell ⟨w.heap.size,6,none⟩ (.slice none 0 0))
  have x2:ag W5 w.heap.size 24 Z7:=by rw [hW5];exact v2.seven _ _ _ _ _ _ _
  have x3:ag W5 (w.heap.size+1) 3 #[.int .i64 p]:=by rw [hW5];exact ag.far (ag.far (ag.far (ag.far (ag.far (ag.far (ag.far v3 yX.symm _) yX.symm _) yX.symm _) yX.symm _) yX.symm _) yX.symm _) yX.symm _
  have x4:ag W5 (w.heap.size+1+1) 25 #[.int .i64 k]:=by rw [hW5];exact ag.far (ag.far (ag.far (ag.far (ag.far (ag.far (ag.far v4 yY.symm _) yY.symm _) yY.symm _) yY.symm _) yY.symm _) yY.symm _) yY.symm _
  have xB:Below w.heap.size w W5:=by rw [hW5];exact ((((((hB.setCell (by simp) _).setCell (by simp) _).setCell (by simp) _).setCell (by simp) _).setCell (by simp) _).setCell (by simp) _).setCell (by simp) _
  rw [<-hW5]
  clear hW5 q0 q1 q2 q3 q4 q5 q6 qf v2 v3 v4 hB
  simp only [Act.put,gA,gB,gC,gD,gE,gF]
  have r3:=x3.cell 0
  have f3:=x3.frozen 0
  refine oI 4 rfl (CS (w':=W5.setCell ⟨w.heap.size+1,0,none⟩ (.int .i64 p)) (by unfold execOp;go_simp) (And.intro ⟨x3.ny 0 (.int .i64 p),ag.far x4 X6.symm _⟩ ?_) rfl)
  simp only [Act.put,gA,gB,gC,gD,gE,gF]
  have x4':=ag.far (p:=⟨w.heap.size+1,0,none⟩) x4 X6.symm (.int .i64 p)
  have r4:=x4'.cell 0
  have f4:=x4'.frozen 0
  refine oI 5 rfl (CS (w':=(W5.setCell ⟨w.heap.size+1,0,none⟩ (.int .i64 p)).setCell ⟨w.heap.size+1+1,0,none⟩ (.int .i64 k)) (by unfold execOp;go_simp) (And.intro ⟨ag.far (x3.ny 0 (.int .i64 p)) X6 _,x4'.ny 0 (.int .i64 k)⟩ ?_) rfl)
  simp only [Act.put,gA,gB,gC,gD,gE,gF]
  refine eZ ?_
  exact ⟨rfl,rfl,rfl,rfl,rfl,ag.far (ag.far x2 yX _) yY _,ag.far (x3.ny 0 (.int .i64 p)) X6 _,x4'.ny 0 (.int .i64 k),(xB.setCell (by simp) _).setCell (by simp;omega) _⟩
theorem Gr.X7 {S:Nat->Prop} {w w':World} {B:Nat} (h:Gr S w w') (hB:B<=w.heap.size) (hs:∀k,k < B->¬S k):Below B w w':=
 ⟨h.os,h.tape,h.output,h.size,fun k hk=>h.block k (by omega) (hs k hk)⟩
theorem nW.aiz {w w':World} {F:Nat->Prop} {t:Tr} {vs:List Value} (h:nW w F t vs) (hb:Below w.heap.size w w'):nW w' F t vs:=
 nW.keep (fun g _ hg=>hb.block g hg) hb.size (fun _ _ h=>h) _ _ h
theorem X8 (s:ByteArray) (ts:List T) (P:Nat) (w:World) (ht:qF w) (h:oH s.data.toList=(ts,0,0)) (hP:gd P ts):
  Calls Tryz.prog 4 #[.string s] w (Qx w (qD ts)):=by
 obtain ⟨hgood,Sa,hlen⟩:=yL h
 have hne:ts≠[]:=by rintro rfl;exact hgood
 have HT:=af ht
 have HH:=af h
 have HF:=af (X5 (10*ts.length) (by unfold cK;omega))
 clear ht h
 go_enter_defers Tryz.func4,Tryz.ntmps4
 go_wp2_with (go_at_call 9;refine (UN _ ts _ (((HT.out.alloc _).alloc _).alloc _) hne HH.out).mono ?_;rintro e w1 ⟨g,c,rfl,hb1,hgc,htk⟩;have hs1:w.heap.size+3<=w1.heap.size:=(by have:=hb1.size;simpa using this);have az:ag w1 w.heap.size 24 Z7:=ag.aC bz hb1;have zG:ag w1 (w.heap.size+1) 3 #[.int .i64 0]:=ag.aC bz hb1;have zH:ag w1 (w.heap.size+2) 25 #[.int .i64 0]:=ag.aC bz hb1;have q1:=zG.cell 0;have f1:=zG.frozen 0;have q2:=zH.cell 0;have f2:=zH.frozen 0)
 have yX:w.heap.size≠w.heap.size+1:=by omega
 have yY:w.heap.size≠w.heap.size+1+1:=by omega
 have X6:w.heap.size+1≠w.heap.size+1+1:=by omega
 have hg1:g≠w.heap.size+1:=by
  rintro rfl
  obtain ⟨x,r,rfl⟩:=List.exists_cons_of_ne_nil hne
  have h1:=(htk.cell 0 x rfl).2.1
  have h2:=zG.cell 1
  rw [h1] at h2
  cases h2
 have hg2:g≠w.heap.size+1+1:=by
  rintro rfl
  obtain ⟨x,r,rfl⟩:=List.exists_cons_of_ne_nil hne
  have h1:=(htk.cell 0 x rfl).2.1
  have h2:=zH.cell 1
  rw [h1] at h2
  cases h2
 obtain ⟨V,hV⟩:=uj ((w1.setCell ⟨w.heap.size+1,0,none⟩ (.int .i64 0)).setCell ⟨w.heap.size+1+1,0,none⟩ (.int .i64 0))
 have v2:ag V w.heap.size 24 Z7:=by rw [hV];exact ag.far (ag.far az yX _) yY _
 have v3:ag V (w.heap.size+1) 3 #[.int .i64 0]:=by rw [hV];exact ag.far (zG.ny 0 (.int .i64 0)) X6 _
 have v4:ag V (w.heap.size+1+1) 25 #[.int .i64 0]:=by rw [hV];exact (ag.far (p:=⟨w.heap.size+1,0,none⟩) zH X6.symm (.int .i64 0)).ny 0 (.int .i64 0)
 have hB:Below w.heap.size w V:=by rw [hV];exact ((((((Below.refl _ w).alloc (Nat.le_refl _) _).alloc (by simp) _).alloc (by simp;omega) _).trans (hb1.mono (by simp;omega))).setCell (by simp) _).setCell (by simp;omega) _
 have vT:AL V g ts:=by rw [hV];exact AL.gr htk ((Gr.setCell (S:=fun q=>q=w.heap.size+1\/q=w.heap.size+1+1) (Gr.refl w1) (.inr (.inl rfl)) _).setCell (.inr (.inr rfl)) _) (by rintro (h|h);exact hg1 h;exact hg2 h)
 have hsz:V.heap.size=w1.heap.size:=by rw [hV];simp
 rw [<-hV,<-hsz]
 have hgV:=vT.lt
 have hPS:PS ⟨V.heap.size,g,c,ts⟩ (V.alloc (.cells #[.slice (some ⟨g,0,none⟩) ts.length c,.int .i64 0,.int .i64 0] 43)) ts 0:=by
  refine ⟨?_,vT.below ((Below.refl _ _).alloc (Nat.le_refl _) _),Nat.ne_of_lt hgV,hgood,List.suffix_refl _,by omega,hlen,Sa⟩
  have e:psC ⟨V.heap.size,g,c,ts⟩ ts 0=#[.slice (some ⟨g,0,none⟩) ts.length c,.int .i64 0,.int .i64 0]:=by simp [psC]
  rw [e]
  exact ag.new _ _ _
 have hout:=(IW hP).out
 have hq:bnd (go (10*ts.length+1) .file ts 0) R.ok=go (10*ts.length+1) .file ts 0:=by
  cases go (10*ts.length+1) .file ts 0 <;> rfl
 have hl2:=v2.lt
 have hl3:=v3.lt
 have hl4:=v4.lt
 clear hV az zG zH q1 f1 q2 f2 hb1 htk hsz hs1 hgc
 refine (HF.out ⟨V.heap.size,g,c,ts⟩ _ ts 0 R.ok _ hPS hq hout).mono ?_
 obtain ⟨r,hr⟩:=aS (go (10*ts.length+1) .file ts 0)
 have hpb:∀a k,r= .bad a k->qD ts= .fault a k:=fun a k h=>by unfold qD;rw [hr,h]
 have hpo:∀t l,r= .ok t l->qD ts=if 3000 < t.nodes then .fault 0 2 else if 100 < t.deep then .fault 0 3 else .tree t:=fun t l h=>by unfold qD;rw [hr,h]
 have hnf:∀t l,r= .ok t l->t.nodes<=2*ts.length:=fun t l e=>P6 (hr.trans e)
 rw [hr]
 rintro e w2 ⟨hg2,⟨a,k,hbad,rfl⟩|⟨k,op,n,p,t,a,ks,A,c2,l,rfl,hok,rq,_,hP2⟩⟩
 ·have HPB:=hpb _ _ hbad
  clear hr hpo hnf hpb
  have hg2:Gr (·=V.heap.size) _ w2:=hg2
  subst hbad
  rw [HPB]
  have y2:ag w2 w.heap.size 24 Z7:=(v2.alloc _).gr hg2 (Nat.ne_of_lt hl2)
  have y3:ag w2 (w.heap.size+1) 3 #[.int .i64 0]:=(v3.alloc _).gr hg2 (Nat.ne_of_lt hl3)
  have y4:ag w2 (w.heap.size+1+1) 25 #[.int .i64 0]:=(v4.alloc _).gr hg2 (Nat.ne_of_lt hl4)
  have hB2:Below w.heap.size w w2:=(hB.alloc hB.size _).trans (Gr.X7 hg2 (by simp;omega) (by intro q h1 h2;omega))
  refine Al _ w.heap.size (w.heap.size+1) (w.heap.size+1+1) 0 0 a k _ w2 w.heap.size rfl rfl rfl y2 ⟨_,_,_,_,_,_,_,rfl⟩ y3 y4 (Nat.le_refl _) (by omega) (by omega) fun w' hb=>⟨hB2.trans hb,.inr ⟨a,k,rfl,rfl⟩⟩
 ·have hnf:=hnf _ _ hok.symm
  have hg2:Gr (·=V.heap.size) _ w2:=hg2
  have HO:=af (hpo _ _ hok.symm)
  clear hr hpb hpo
  subst hok
  have y2:ag w2 w.heap.size 24 Z7:=(v2.alloc _).gr hg2 (Nat.ne_of_lt hl2)
  have y3:ag w2 (w.heap.size+1) 3 #[.int .i64 0]:=(v3.alloc _).gr hg2 (Nat.ne_of_lt hl3)
  have y4:ag w2 (w.heap.size+1+1) 25 #[.int .i64 0]:=(v4.alloc _).gr hg2 (Nat.ne_of_lt hl4)
  obtain ⟨_,lJ,lK,lM,lN,lQ,lS,lT,lU⟩:=y2.av
  have hB2:Below w.heap.size w w2:=(hB.alloc hB.size _).trans (Gr.X7 hg2 (by simp;omega) (by intro q h1 h2;omega))
  go_wp2_with fail
  obtain ⟨U,hU⟩:=uj (((((((w2.setCell ⟨w.heap.size,0,none⟩ (.int .i64 k)).setCell ⟨w.heap.size,1,none⟩ (.int .i64 op)).setCell ⟨w.heap.size,2,none⟩ (.int .i64 n)).setCell ⟨w.heap.size,3,none⟩ (.string (bs p))).setCell ⟨w.heap.size,4,none⟩ (.string (bs t))).setCell ⟨w.heap.size,5,none⟩ (.int .i64 a)).setCell ⟨w.heap.size,6,none⟩ (.slice A ks.length c2))
  have x2:ag U w.heap.size 24 (N7 k op n (bs p) (bs t) a (.slice A ks.length c2)):=by rw [hU];exact y2.seven _ _ _ _ _ _ _
  have x3:ag U (w.heap.size+1) 3 #[.int .i64 0]:=by rw [hU];exact ag.far (ag.far (ag.far (ag.far (ag.far (ag.far (ag.far y3 yX.symm _) yX.symm _) yX.symm _) yX.symm _) yX.symm _) yX.symm _) yX.symm _
  have x4:ag U (w.heap.size+1+1) 25 #[.int .i64 0]:=by rw [hU];exact ag.far (ag.far (ag.far (ag.far (ag.far (ag.far (ag.far y4 yY.symm _) yY.symm _) yY.symm _) yY.symm _) yY.symm _) yY.symm _) yY.symm _
  have hB3:Below w.heap.size w U:=by rw [hU];exact ((((((hB2.setCell (by simp) _).setCell (by simp) _).setCell (by simp) _).setCell (by simp) _).setCell (by simp) _).setCell (by simp) _).setCell (by simp) _
  have hrep:nW U (Fp (V.heap.size+1)) (.mk k op n p t a ks) (GG k op n p t a (.slice A ks.length c2)):=by
   have h0:=rq.rep k op n p t a
   rw [World.size_alloc] at h0
   rw [hU]
   exact h0.gr (fQ (S:=(·=w.heap.size)) (g:=w.heap.size) (i:=0) (Gr.refl w2) (.inr rfl)) (fun q h1 h2 h3=>by have h1:V.heap.size+1<=q:=h1;have:q=w.heap.size:=h3;omega) (fun q _ h=>h)
  rw [<-hU]
  clear hU y2 y3 y4 lJ lK lM lN lQ lS lT lU rq hP2 hg2
  have hck:=Uu (.mk k op n p t a ks) (by omega) U _ _ hrep
  refine hck.mono ?_
  rintro e w5 ⟨hb5,he⟩
  have u2:=ag.aC x2 hb5
  have u3:=ag.aC x3 hb5
  have u4:=ag.aC x4 hb5
  have Eb:=hB3.trans (hb5.mono hB3.size)
  have agz:=hrep.aiz hb5
  clear hck hrep x2 x3 x4 hb5 hB3
  by_cases h1:3000 < (Tr.mk k op n p t a ks).nodes
  ·rw [if_pos h1] at he
   subst he
   exact Al _ w.heap.size (w.heap.size+1) (w.heap.size+1+1) 0 0 0 2 _ w5 w.heap.size rfl rfl rfl u2 ⟨_,_,_,_,_,_,_,rfl⟩ u3 u4 (Nat.le_refl _) (by omega) (by omega) fun w' hb=>⟨Eb.trans hb,.inr ⟨0,2,by rw [HO.out,if_pos h1],rfl⟩⟩
  by_cases h2:100 < (Tr.mk k op n p t a ks).deep
  ·rw [if_neg h1,if_pos h2] at he
   subst he
   exact Al _ w.heap.size (w.heap.size+1) (w.heap.size+1+1) 0 0 0 3 _ w5 w.heap.size rfl rfl rfl u2 ⟨_,_,_,_,_,_,_,rfl⟩ u3 u4 (Nat.le_refl _) (by omega) (by omega) fun w' hb=>⟨Eb.trans hb,.inr ⟨0,3,by rw [HO.out,if_neg h1,if_pos h2],rfl⟩⟩
  ·rw [if_neg h1,if_neg h2] at he
   subst he
   have HT:=af (show qD ts= .tree (.mk k op n p t a ks) by rw [HO.out,if_neg h1,if_neg h2])
   clear HO h1 h2
   obtain ⟨_,lJ,lK,lM,lN,lQ,lS,lT,lU⟩:=u2.av
   have vM:=u3.cell 0
   have vN:=u3.frozen 0
   have wO:=u4.cell 0
   have wP:=u4.frozen 0
   go_wp2
   refine Qw _ w.heap.size (w.heap.size+1) (w.heap.size+1+1) _ _ _ _ _ _ _ _ _ _ rfl rfl rfl (ag.far (ag.far (u2.seven (.int .i64 k) (.int .i64 op) (.int .i64 n) (.string (bs p)) (.string (bs t)) (.int .i64 a) (.slice A ks.length c2)) yX _) yY _) ?_ ?_ ⟨?_,.inl ⟨_,_,HT.out,?_,rfl⟩⟩
   ·exact ag.far (ag.ny (ag.far (ag.far (ag.far (ag.far (ag.far (ag.far (ag.far u3 yX.symm _) yX.symm _) yX.symm _) yX.symm _) yX.symm _) yX.symm _) yX.symm _) 0 _) X6 _
   ·exact ag.ny (ag.far (ag.far (ag.far (ag.far (ag.far (ag.far (ag.far (ag.far u4 yY.symm _) yY.symm _) yY.symm _) yY.symm _) yY.symm _) yY.symm _) yY.symm _) X6.symm _) 0 _
   ·exact ((((((((Eb.setCell (by simp) _).setCell (by simp) _).setCell (by simp) _).setCell (by simp) _).setCell (by simp) _).setCell (by simp) _).setCell (by simp) _).setCell (by simp) _).setCell (by simp;omega) _
   ·refine agz.gr (S:=fun q=>q=w.heap.size\/q=w.heap.size+1\/q=w.heap.size+1+1) (((fQ (g:=w.heap.size) (i:=0) (Gr.refl w5) (.inr (.inl rfl))).setCell (.inr (.inr (.inl rfl))) _).setCell (.inr (.inr (.inr rfl))) _) (fun q h1 _ h3=>?_) (fun q _ h=>?_)
    ·have h1:V.heap.size+1<=q:=h1
     rcases h3 with h3|h3|h3 <;> omega
    ·have h:V.heap.size+1<=q:=h
     show w.heap.size<=q
     omega
theorem I4 (s:ByteArray) (w:World) (ht:qF w):Calls Tryz.prog 4 #[.string s] w (Qx w (nQ s.data.toList)):=by
 rcases Et s.data.toList with ⟨ts,h⟩|⟨p,k,h,_,hk⟩
 ·have e:nQ s.data.toList=qD ts:=by unfold nQ;rw [h];rfl
  rw [e]
  exact X8 s ts _ w ht h ⟨(yL h).1,CY h⟩
 ·have e:nQ s.data.toList= .fault p k:=by unfold nQ;rw [h];rcases hk with rfl|rfl <;> rfl
  rw [e]
  exact Uv s p k w ht h hk
end Go.Proofs.YtnhidldofjengaaGreatDoor
