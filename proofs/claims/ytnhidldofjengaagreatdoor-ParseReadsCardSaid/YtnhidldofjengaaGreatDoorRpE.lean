/- Both parsers, part 11. -/
import Derived.Deep.LoopGhost
import Derived.Test.YtnhidldofjengaaGreatDoorParP
import Derived.Test.YtnhidldofjengaaGreatDoorRrJ
import Derived.Test.YtnhidldofjengaaGreatDoorParK
import Derived.Test.YtnhidldofjengaaGreatDoorLexRD
namespace Go.Proofs.YtnhidldofjengaaGreatDoor
open Go.RowKit
open List renaming getElem_toArray->gA,getElem_cons_zero->gB,getElem_cons_succ->gC,setIfInBounds_toArray->gD,set_cons_zero->gE,set_cons_succ->gF
set_option linter.unusedVariables false
set_option linter.unusedSimpArgs false
set_option maxRecDepth 100000
set_option maxHeartbeats 4000000
abbrev jR (s:St):St:=aj [112,97,99,107,97,103,101] s
abbrev pK (s:St):St:=aj [105,109,112,111,114,116] s
def M0 (n:Nat) (ts:List T):Option (Tr × St):=
 match wN n (.mk 1 0 0 [] (ay (aj [112,97,99,107,97,103,101] ⟨ts,0,0,0⟩)) (hdp ⟨ts,0,0,0⟩) []) (aj [59] (aG (aj [112,97,99,107,97,103,101] ⟨ts,0,0,0⟩))) with
 |none=>none
 |some (nd,s)=>qi n n nd s
def Yo (t:Tr) (s:St):Tr × Nat × Int:=if s.e=0 then (if 3000 < t.nodes then (eU,0,2) else if 100 < t.deep then (eU,0,3) else (t,0,0)) else (eU,s.p,s.e)
def OfP (w:World) (r:Tr × Nat × Int) (e:Ending) (w':World):Prop:=
 Below w.heap.size w w'/\∃(k op n:Int) (p t:List UInt8) (a:Nat) (ks:List Tr) (A:Option Addr) (c:Nat),r.1= .mk k op n p t a ks/\
  e= .returned (.tuple #[.agg #[.int .i64 k,.int .i64 op,.int .i64 n,.string (bs p),.string (bs t),.int .i64 a,.slice A ks.length c],.int .i64 r.2.1,.int .i64 r.2.2])/\aI w' w.heap.size (.slice A ks.length c) ks
theorem KD (tmps:Array Value) (w:World) (b2:Nat) (x0 x1 x2 x3 x4 x5 x6 v3 v4:Value) (t2:tmps.getD 2 undef= .pointer (some ⟨b2,0,none⟩)) (t3:tmps.getD 3 undef=v3) (t4:tmps.getD 4 undef=v4) (h2:ag w b2 24 #[x0,x1,x2,x3,x4,x5,x6]):
  (results Tryz.f14 tmps).run Tryz.prog w= .ok (.tuple #[.agg #[x0,x1,x2,x3,x4,x5,x6],v3,v4]) w:=by
 have q0:=h2.cell 0
 have q1:=h2.cell 1
 have q2:=h2.cell 2
 have q3:=h2.cell 3
 have q4:=h2.cell 4
 have q5:=h2.cell 5
 have q6:=h2.cell 6
 rw [Array.getD_eq_getD_getElem?] at t2 t3 t4
 simp [results,Tryz.results14,t2,t3,t4,go_sem,q0,q1,q2,q3,q4,q5,q6]
theorem XC {w:World} {E:Env} (hw:E.b=w.heap.size+1) (ht:AL w E.g E.ts) (hg:good E.ts) (hl:E.ts.length<=8193) (hn:∀x∈E.ts,0<=x.1.n/\x.1.n<=9223372036854775807):
  RS E ((w.alloc (.cells #[.int .i64 0,.int .i64 0,.int .i64 0,.string ⟨#[]⟩,.string ⟨#[]⟩,.int .i64 0,.slice none 0 0] 24)).alloc (.cells #[.slice (some ⟨E.g,0,none⟩) E.ts.length E.c,.int .i64 0,.int .i64 0,.int .i64 0,.int .i64 0] 61)) ⟨E.ts,0,0,0⟩:=by
 have hgl:=ht.lt
 refine ⟨?_,?_,by omega,hg,List.suffix_refl _,by simp,by simp,hl,hn⟩
 ·rw [hw]
  have:=ag.new (w.alloc (.cells #[.int .i64 0,.int .i64 0,.int .i64 0,.string ⟨#[]⟩,.string ⟨#[]⟩,.int .i64 0,.slice none 0 0] 24)) 61 #[.slice (some ⟨E.g,0,none⟩) E.ts.length E.c,.int .i64 0,.int .i64 0,.int .i64 0,.int .i64 0]
  simpa using this
 ·exact (ht.gr ((Gr.refl w (S:=fun _=>False)).alloc _) id).gr ((Gr.refl _ (S:=fun _=>False)).alloc _) id
theorem IX (l:List T):kind l=(hd l).1.k:=by cases l <;> rfl
theorem acY (n:Nat) (hn:n+10<=cK) (w:World) (g:Nat) (ts:List T) (c:Nat) (t:Tr) (s:St) (ht:AL w g ts) (hg:good ts) (hl:ts.length<=8193) (Ku:∀x∈ts,0<=x.1.n/\x.1.n<=9223372036854775807) (heq:M0 n ts=some (t,s)):
  Calls Tryz.prog 14 #[.slice (some ⟨g,0,none⟩) ts.length c] w (OfP w (Yo t s)):=by
 obtain ⟨E,hE⟩:∃E:Env,E=⟨w.heap.size+1,g,c,ts⟩:=⟨_,rfl⟩
 have hEb:w.heap.size+1=E.b:=by rw [hE]
 have hEg:g=E.g:=by rw [hE]
 have hEc:c=E.c:=by rw [hE]
 have hEt:ts=E.ts:=by rw [hE]
 clear hE
 subst hEg hEc hEt
 have hgl:=ht.lt
 have hbL:=E.bL
 have hgL:=E.gL
 have hR0:=XC (w:=w) (E:=E) hEb.symm ht hg hl Ku
 obtain ⟨s0,hs0⟩:=aS (⟨E.ts,0,0,0⟩:St)
 unfold M0 at heq
 rw [hs0] at hR0 heq
 obtain ⟨nd1,s4,h1,h2⟩:∃nd1 s4,wN n (.mk 1 0 0 [] (ay (jR s0)) (hdp s0) []) (aj [59] (aG (jR s0)))=some (nd1,s4)/\qi n n nd1 s4=some (t,s):=by
  cases hi:wN n (.mk 1 0 0 [] (ay (jR s0)) (hdp s0) []) (aj [59] (aG (jR s0))) with
  |none=>rw [hi] at heq;cases heq
  |some y=>rw [hi] at heq;exact ⟨y.1,y.2,rfl,heq⟩
 obtain ⟨nd2,agh⟩:=aS t
 obtain ⟨s5,hs5⟩:=aS s
 rw [agh,hs5] at h2 |-
 obtain ⟨RR,hRR⟩:=aS (Yo nd2 s5)
 rw [hRR]
 have HRR:=af hRR
 clear hRR
 have fG:=af h1
 have fJ:=af h2
 clear heq h1 h2 hs0 agh hs5
 go_enter Tryz.func14,Tryz.ntmps14
 go_wp2_with (first
  |(go_at_call 25;(with_reducible refine (aA E _ s0 aB [112,97,99,107,97,103,101] ⟨#[112,97,99,107,97,103,101]⟩ rfl).mono ?_);rintro e w1 ⟨rfl,fB,hg1⟩;have hG1:Gr (·=E.b) w w1:=Gr.trans aJ (Gr.mono hg1 (fun _ _ e=>e));have hs1:=hg1.size;(try simp at hs1);have kW:=fB.lt;have oP:=fB.iy;have az:ag w1 w.heap.size 24 Z7:=bU hg1)
  |(go_at_call 26;(with_reducible refine (dR E _ (jR s0) aB).mono ?_);rintro e w2 ⟨rfl,hR2,hg2⟩;have hG2:=bP hG1 hg2;have ax:=aD az hg2;have bq:ag w2 w1.heap.size 24 (N7 1 0 0 ⟨#[]⟩ ⟨#[]⟩ (hdp s0) (.slice none 0 0)):=bU hg2;obtain ⟨_,_,_,_,_,U8,_,_,uE⟩:=bq.av;have PI:ag (w2.setCell ⟨w1.heap.size,4,none⟩ (.string (bs (ay (jR s0))))) w1.heap.size 24 #[.int .i64 1,.int .i64 0,.int .i64 0,.string ⟨#[]⟩,.string (bs (ay (jR s0))),.int .i64 (hdp s0),.slice none 0 0]:=ag.GH bq _;have anb:w.heap.size < E.b:=(by omega);have anc:E.b<=w.heap.size+1:=(by omega);clear hEb)
  |(go_at_call 25;(with_reducible refine (aA E _ (aG (jR s0)) aB [59] ⟨#[59]⟩ rfl).mono ?_);rintro e w3 ⟨rfl,gZ,hg3⟩;have hG3:=bP hG2 hg3;have aF:=aD ax hg3;have aM:=aD PI hg3;have zu:=aM.lt))
 go_loopg [28] n (fun gk _ wr=>∃(aU:List Tr) (A1:Option Addr) (c1:Nat) (sx:St),RS E wr sx/\ag wr w1.heap.size 24 (N7 1 0 0 ⟨#[]⟩ (bs (ay (jR s0))) (hdp s0) (.slice A1 aU.length c1))/\ag wr w.heap.size 24 Z7/\ah wr E.L (fun q=>q<=w1.heap.size) (.slice A1 aU.length c1) aU/\Gr (·=E.b) w wr/\(∀q,(Value.slice A1 aU.length c1).ownBlock=some q->w.heap.size+1 < q)/\aU.length+gk<=n/\gk<=n/\w1.heap.size < wr.heap.size/\wN gk (.mk 1 0 0 [] (ay (jR s0)) (hdp s0) aU) sx=some (nd1,s4))
 case atStart=>exact ⟨[],none,0,_,gZ,aM,aF,ah.none_ _ _ _,hG3,(fun q e=>by cases e),by simp,Nat.le_refl _,by omega,fG.out⟩
 case round=>
  obtain ⟨aU,A1,c1,sx,gu,dP,dF,fI,jk,gy,hlk,hgn,hw2,hq⟩:=hrel
  have Dy:w.heap.size<=wr.heap.size:=jk.size
  have Fe:=dP.lt
  have Fw:=dF.lt
  have jU:∀q,(fun q=>q<=w1.heap.size) q->q < wr.heap.size:=fun q hq=>by have:q<=w1.heap.size:=hq;omega
  have dO:(fun q=>q<=w1.heap.size) w1.heap.size:=Nat.le_refl _
  have cB:(fun q=>q<=w1.heap.size) w.heap.size:=by show w.heap.size<=w1.heap.size;omega
  have fT:w1.heap.size≠E.b:=by omega
  have kG:w1.heap.size≠E.g:=by omega
  have Iu:=gu.lt
  have Iw:=gu.iy
  have WS:=gu.L
  cases gk with
  |zero=>exact absurd hq (by simp [wN])
  |succ f=>
  simp only [wN] at hq
  cases hi:bX [105,109,112,111,114,116] sx with
  |true=>
   have HI:=af hi
   simp only [hi,if_true] at hq
   have HQ:=af hq
   clear hi hq
   go_wp2_with (first
    |(go_at_call 27;(with_reducible refine (au E _ sx aB [105,109,112,111,114,116] ⟨#[105,109,112,111,114,116]⟩ rfl).mono ?_);rintro e bB ⟨rfl,aV⟩;rw [HI.out];have fM:RS E bB sx:=RS.below aB aV;have gm:=gX E.b w aV;have qR:=aV.size;(try simp at qR);have bR:ag bB w.heap.size 24 Z7:=ag.aC bz aV;have bJ:ag bB w1.heap.size 24 (N7 1 0 0 ⟨#[]⟩ (bs (ay (jR s0))) (hdp s0) (.slice A1 aU.length c1)):=ag.aC bz aV;have bZ:ah bB E.L (fun q=>q<=w1.heap.size) (.slice A1 aU.length c1) aU:=ah.aC nR aV)
    |(go_at_call 25;(with_reducible refine (aA E _ sx aB [105,109,112,111,114,116] ⟨#[105,109,112,111,114,116]⟩ rfl).mono ?_);rintro e ek ⟨rfl,jY,dH⟩;have kK:=bP gm dH;have xQ:=dH.size;(try simp at xQ);have gT:=bR.call dH (by omega);have ig:=bJ.call dH (by omega);have jO:=dU bZ dH)
    |(go_at_call 26;(with_reducible refine (dR E _ (pK sx) aB).mono ?_);rintro e iP ⟨rfl,mW,gz⟩;have pz:=bP kK gz;have Mf:=gz.size;(try simp at Mf);have oK:=gT.call gz (by omega);have fO:=ig.call gz (by omega);have ab5:=fO.lt;obtain ⟨_,_,_,_,_,_,_,Md,_⟩:=fO.av;have iH:=dU jO gz)
    |(at_builtin;refine wpList_plain rfl (fun KK hKK=>?_);have hrow:=ah.oW (g:=iP.heap.size) (k:=2) (op:=0) (m:=0) (p:=[]) (t:=(ay (pK sx))) (a:=(hdp (pK sx))) (ks:=[]) (c:=0) (A:=none) (ah.none_ iP E.L (fun q=>(fun q=>q<=w1.heap.size) q\/(Value.slice A1 aU.length c1).ownBlock=some q)) (by omega) (fun q hq=>hq.elim (fun h=>Nat.lt_of_lt_of_le (jU q h) (by omega)) (fun e=>(iH.own e).2.1)) rfl;refine yE (lo:=E.L) (X:=(fun q=>q<=w1.heap.size)) (v:=.slice A1 aU.length c1) (dx:=aU) (w:=(iP.alloc (.cells #[.int .i64 2,.int .i64 0,.int .i64 0,.string ⟨#[]⟩,.string (bs (ay (pK sx))),.int .i64 (hdp (pK sx)),.slice none 0 0] 24))) (iH.alloc _) (fun q hq=>Nat.lt_of_lt_of_le (jU q hq) (by simp;omega)) hrow (by unfold cK at*;omega) (by simp;omega) _ _ rfl rfl rfl ?_;intro KY c14 kD agi aip mD;have pE:RS E kD (aG (pK sx)):=RS.gr (w:=(iP.alloc (.cells #[.int .i64 2,.int .i64 0,.int .i64 0,.string ⟨#[]⟩,.string (bs (ay (pK sx))),.int .i64 (hdp (pK sx)),.slice none 0 0] 24))) (mW.alloc _) mD (fun e=>by have:=(iH.own e).1;have:=E.bL;omega) (fun e=>by have:=(iH.own e).1;have:=E.gL;omega);have qU:Gr (·=E.b) w kD:=Gr.wide (w':=(iP.alloc (.cells #[.int .i64 2,.int .i64 0,.int .i64 0,.string ⟨#[]⟩,.string (bs (ay (pK sx))),.int .i64 (hdp (pK sx)),.slice none 0 0] 24))) (pz.alloc _) mD (fun q hq e=>by have:=gy q e;omega);have jG:ag kD w1.heap.size 24 (N7 1 0 0 ⟨#[]⟩ (bs (ay (jR s0))) (hdp s0) (.slice A1 aU.length c1)):=mD.blk (fO.alloc _) (fun e=>(iH.own e).2.2 dO);have vR:ag kD w.heap.size 24 Z7:=mD.blk (oK.alloc _) (fun e=>(iH.own e).2.2 cB);obtain ⟨_,_,_,_,_,_,_,WU,abk⟩:=jG.av;have hbS:ag (kD.setCell ⟨w1.heap.size,6,none⟩ (.slice KY (aU.length+1) c14)) w1.heap.size 24 #[.int .i64 1,.int .i64 0,.int .i64 0,.string ⟨#[]⟩,.string (bs (ay (jR s0))),.int .i64 (hdp s0),.slice KY (aU.length+1) c14]:=ag.jC jG _;have hpS:ah (kD.setCell ⟨w1.heap.size,6,none⟩ (.slice KY (aU.length+1) c14)) E.L (fun q=>q<=w1.heap.size) (.slice KY (aU.length+1) c14) (aU ++ [Tr.mk 2 0 0 [] (ay (pK sx)) (hdp (pK sx)) []]):=ah.setCell (p:=⟨w1.heap.size,6,none⟩) aip (.inr dO) _;refine hKK _ _ ?_)
    |(go_at_call 25;(with_reducible refine (aA E _ (aG (pK sx)) aB [59] ⟨#[59]⟩ rfl).mono ?_);rintro e jL ⟨rfl,qV,j6⟩;have Bt:=bP qU j6;have OZ:=aD vR j6;have jP:=aD hbS j6;have aiq:=jP.lt;have oJ:=dU hpS j6))
   obtain ⟨bN,jf⟩:=aS (aU ++ [Tr.mk 2 0 0 [] (ay (pK sx)) (hdp (pK sx)) []])
   have hl2:bN.length=aU.length+1:=by rw [<-jf,List.length_append];rfl
   have hq:=HQ.out
   simp only [Tr.add,jf] at hq
   rw [jf,<-hl2] at oJ
   rw [<-hl2] at jP agi
   have Cq:=af hq
   clear hq
   go_roundg f
   case measure=>omega
   case rel=>exact ⟨bN,KY,c14,_,qV,jP,OZ,oJ,Bt,(fun q_ e=>(agi q_ e).elim (gy q_) (fun h=>by simp at h;omega)),by omega,by omega,by omega,Cq.out⟩
  |false=>
   have HI:=af hi
   simp only [hi,Bool.false_eq_true,if_false,Option.some.injEq,Prod.mk.injEq] at hq
   obtain ⟨rfl,rfl⟩:=hq
   clear hi
   go_wp2_with (first
    |(go_at_call 27;(with_reducible refine (au E _ sx aB [105,109,112,111,114,116] ⟨#[105,109,112,111,114,116]⟩ rfl).mono ?_);rintro e bB ⟨rfl,aV⟩;rw [HI.out];have fM:RS E bB sx:=RS.below aB aV;have gm:=gX E.b w aV;have Br:=fM.lt;have Dg:=fM.iy;have bR:ag bB w.heap.size 24 Z7:=ag.aC bz aV;have bJ:ag bB w1.heap.size 24 (N7 1 0 0 ⟨#[]⟩ (bs (ay (jR s0))) (hdp s0) (.slice A1 aU.length c1)):=ag.aC bz aV;have VI:=bJ.lt;have bZ:ah bB E.L (fun q=>q<=w1.heap.size) (.slice A1 aU.length c1) aU:=ah.aC nR aV))
   have nM:aU.length<=n:=by omega
   clear hlk hgn hw2
   obtain ⟨wa,hwa⟩:=aS wr
   rw [hwa] at*
   clear hwa
   go_loopg [47] n (fun gk _ wr=>∃(aU:List Tr) (A1:Option Addr) (c1:Nat) (sx:St),RS E wr sx/\ag wr w1.heap.size 24 (N7 1 0 0 ⟨#[]⟩ (bs (ay (jR s0))) (hdp s0) (.slice A1 aU.length c1))/\ag wr w.heap.size 24 Z7/\ah wr E.L (fun q=>q<=w1.heap.size) (.slice A1 aU.length c1) aU/\Gr (·=E.b) w wr/\(∀q,(Value.slice A1 aU.length c1).ownBlock=some q->w.heap.size+1 < q)/\aU.length+gk<=2*n/\gk<=n/\w1.heap.size < wr.heap.size/\qi n gk (.mk 1 0 0 [] (ay (jR s0)) (hdp s0) aU) sx=some (nd2,s5))
   case atStart=>exact ⟨aU,A1,c1,_,fM,bJ,bR,bZ,gm,gy,by omega,Nat.le_refl _,by omega,fJ.out⟩
   case round=>
    clear Dy Fe Fw jU dO cB fT kG Iu Iw WS gu dP dF fI jk gy nM Br Dg
    obtain ⟨aU,A1,c1,sx,gu,dP,dF,fI,jk,gy,hlk,hgn,hw2,hq⟩:=hrel
    have jU:∀q,(fun q=>q<=w1.heap.size) q->q < wr.heap.size:=fun q hq=>by have:q<=w1.heap.size:=hq;omega
    have dO:(fun q=>q<=w1.heap.size) w1.heap.size:=Nat.le_refl _
    have cB:(fun q=>q<=w1.heap.size) w.heap.size:=by show w.heap.size<=w1.heap.size;omega
    have fT:w1.heap.size≠E.b:=by omega
    have kG:w1.heap.size≠E.g:=by omega
    have Iu:=gu.lt
    have Iw:=gu.iy
    cases gk with
    |zero=>exact absurd hq (by simp [qi])
    |succ f=>
    simp only [qi] at hq
    obtain ⟨j,hj,hjl,IQ,IU,agj,RZ,agk,XD,_⟩:=gu.here
    have hll:=gu.len
    have j0:(0:Int)<=(j:Int):=by omega
    have j1:(j:Int) < (E.ts.length:Int):=by omega
    have j2:(j:Int)<=8193:=by omega
    clear hj hll
    have HC:=af (show ∀b:Bool,(decide (sx.e=0) && !decide (kind sx.l=0))=b->Value.bool b=Value.bool (decide (sx.e=0) && !decide (kind sx.l=0)) from fun b h=>by rw [h])
    go_wp2
    refine mM (S:=fun V=>Gr (fun q=>False) wr V) (fun vals W=>vals 18= .bool (decide (sx.e=0) && !decide (kind sx.l=0))/\RS E W sx/\Gr (·=E.b) w W/\ag W w1.heap.size 24 (N7 1 0 0 ⟨#[]⟩ (bs (ay (jR s0))) (hdp s0) (.slice A1 aU.length c1))/\ag W w.heap.size 24 Z7/\ah W E.L (fun q=>q<=w1.heap.size) (.slice A1 aU.length c1) aU/\wr.heap.size<=W.heap.size) (by kernel_rfl) (Gr.refl _).drew (fun hS0=>?qY) ?hk
    case qY=>
     obtain ⟨bB,pU⟩:=aS wr.drew
     rw [pU] at hS0 |-
     have fo:Gr (fun q=>False) wr bB:=hS0
     clear hS0
     have fM:=dJ pU (RS.drew gu)
     have gm:=bK pU (Gr.drew jk)
     have qR:wr.heap.size+0<=bB.heap.size:=by rw [<-pU];exact Nat.le_refl _
     have bR:=aP pU (ag.drew dF)
     have bJ:=aP pU (ag.drew dP)
     have bZ:=ko pU (ah.drew fI)
     by_cases he:sx.e=0
     case neg=>
      have pR:(decide (sx.e=0) && !decide (kind sx.l=0))=false:=by rw [decide_eq_false he];rfl
      have ce:(sx.e == 0)=false:=by simpa using he
      clear he
      refine aQ 0 fo ?_
      refine aQ 1 fo ?_
      refine aQ 2 fo ?_
      refine jS 3 fo ?_ (fun w' hS=>(hS.cell (p:=⟨E.b,3,none⟩) (by show E.b < _;omega) id).trans RZ)
      refine aQ 4 fo ?_
      refine aQ 5 fo ?_
      refine lg 6 fo ?_
      refine lg 7 fo ?_
      refine lg 8 fo ?_
      refine lg 9 fo ?_
      refine lg 10 fo ?_
      refine lg 11 fo ?_
      refine lg 12 fo ?_
      refine lg 13 fo ?_
      refine lg 14 fo ?_
      refine lg 15 fo ?_
      refine lg 16 fo ?_
      refine lg 17 fo ?_
      refine aQ 18 fo ?_
      refine eZ ?_
      refine PQ.mk (fun i=>match i with|0=>.pointer (some ⟨E.b,0,none⟩)|1=>.pointer (some ⟨E.b,0,none⟩)|2=>.pointer (some ⟨E.b,3,none⟩)|3=>.int .i64 sx.e|4=>.bool false|5=>.bool false|6=>undef|7=>undef|8=>undef|9=>undef|10=>undef|11=>undef|12=>undef|13=>undef|14=>undef|15=>undef|16=>undef|17=>undef|18=>.bool false|_=>undef) (by kernel_rfl) ?_
      exact ⟨HC.out _ pR,fM,gm,bJ,bR,bZ,by omega⟩
     have ce:(sx.e == 0)=true:=by simpa using he
     by_cases hk:kind sx.l=0
     ·have pR:(decide (sx.e=0) && !decide (kind sx.l=0))=false:=by rw [decide_eq_true hk];simp
      have ck:((hd sx.l).1.k != 0)=false:=by rw [<-IX];simpa using hk
      clear he hk
      refine aQ 0 fo ?_
      refine aQ 1 fo ?_
      refine aQ 2 fo ?_
      refine jS 3 fo ?_ (fun w' hS=>(hS.cell (p:=⟨E.b,3,none⟩) (by show E.b < _;omega) id).trans RZ)
      refine aQ 4 fo ?_
      refine aQ 5 fo ?_
      refine iV 6 fo ?_
      refine iV 7 fo ?_
      refine iV 8 fo ?_
      refine mQ 9 fo ?_ (fun w' hS=>(hS.cell (p:=⟨E.b,0,none⟩) (by show E.b < _;omega) id).trans IQ)
      refine iV 10 fo ?_
      refine iV 11 fo ?_
      refine iV 12 fo ?_
      refine mQ 13 fo ?_ (fun w' hS=>(hS.cell (p:=⟨E.b,1,none⟩) (by show E.b < _;omega) id).trans IU)
      refine iV 14 fo ?_
      refine iV 15 fo ?_
      refine mQ 16 fo ?_ (fun w' hS=>(hS.cell (p:=⟨E.g,j*4,none⟩) (by show E.g < _;omega) id).trans XD)
      refine iV 17 fo ?_
      refine aQ 18 fo ?_
      refine eZ ?_
      refine PQ.mk (fun i=>match i with|0=>.pointer (some ⟨E.b,0,none⟩)|1=>.pointer (some ⟨E.b,0,none⟩)|2=>.pointer (some ⟨E.b,3,none⟩)|3=>.int .i64 sx.e|4=>.bool true|5=>.bool true|6=>.pointer (some ⟨E.b,0,none⟩)|7=>.pointer (some ⟨E.b,0,none⟩)|8=>.pointer (some ⟨E.b,0,none⟩)|9=>.slice (some ⟨E.g,0,none⟩) E.ts.length E.c|10=>.pointer (some ⟨E.b,0,none⟩)|11=>.pointer (some ⟨E.b,0,none⟩)|12=>.pointer (some ⟨E.b,1,none⟩)|13=>.int .i64 j|14=>.pointer (some ⟨E.g,j*4,none⟩)|15=>.pointer (some ⟨E.g,j*4,none⟩)|16=>.int .i64 (hd sx.l).1.k|17=>.bool false|18=>.bool false|_=>undef) (by kernel_rfl) ?_
      exact ⟨HC.out _ pR,fM,gm,bJ,bR,bZ,by omega⟩
     ·have pR:(decide (sx.e=0) && !decide (kind sx.l=0))=true:=by rw [decide_eq_true he,decide_eq_false hk];rfl
      have ck:((hd sx.l).1.k != 0)=true:=by rw [<-IX];simpa using hk
      clear he hk
      refine aQ 0 fo ?_
      refine aQ 1 fo ?_
      refine aQ 2 fo ?_
      refine jS 3 fo ?_ (fun w' hS=>(hS.cell (p:=⟨E.b,3,none⟩) (by show E.b < _;omega) id).trans RZ)
      refine aQ 4 fo ?_
      refine aQ 5 fo ?_
      refine iV 6 fo ?_
      refine iV 7 fo ?_
      refine iV 8 fo ?_
      refine mQ 9 fo ?_ (fun w' hS=>(hS.cell (p:=⟨E.b,0,none⟩) (by show E.b < _;omega) id).trans IQ)
      refine iV 10 fo ?_
      refine iV 11 fo ?_
      refine iV 12 fo ?_
      refine mQ 13 fo ?_ (fun w' hS=>(hS.cell (p:=⟨E.b,1,none⟩) (by show E.b < _;omega) id).trans IU)
      refine iV 14 fo ?_
      refine iV 15 fo ?_
      refine mQ 16 fo ?_ (fun w' hS=>(hS.cell (p:=⟨E.g,j*4,none⟩) (by show E.g < _;omega) id).trans XD)
      refine iV 17 fo ?_
      refine aQ 18 fo ?_
      refine eZ ?_
      refine PQ.mk (fun i=>match i with|0=>.pointer (some ⟨E.b,0,none⟩)|1=>.pointer (some ⟨E.b,0,none⟩)|2=>.pointer (some ⟨E.b,3,none⟩)|3=>.int .i64 sx.e|4=>.bool true|5=>.bool true|6=>.pointer (some ⟨E.b,0,none⟩)|7=>.pointer (some ⟨E.b,0,none⟩)|8=>.pointer (some ⟨E.b,0,none⟩)|9=>.slice (some ⟨E.g,0,none⟩) E.ts.length E.c|10=>.pointer (some ⟨E.b,0,none⟩)|11=>.pointer (some ⟨E.b,0,none⟩)|12=>.pointer (some ⟨E.b,1,none⟩)|13=>.int .i64 j|14=>.pointer (some ⟨E.g,j*4,none⟩)|15=>.pointer (some ⟨E.g,j*4,none⟩)|16=>.int .i64 (hd sx.l).1.k|17=>.bool true|18=>.bool true|_=>undef) (by kernel_rfl) ?_
      exact ⟨HC.out _ pR,fM,gm,bJ,bR,bZ,by omega⟩
    case hk=>
    rintro vals Kt ⟨Ym,vv,Hg,rX,wB,Gh,air⟩
    dsimp only [bG]
    simp only [Act.put,List.getElem_toArray,List.getElem_cons_zero,List.getElem_cons_succ,List.setIfInBounds_toArray,List.set_cons_zero,List.set_cons_succ]
    rw [Ym]
    clear Ym j0 j1 j2 IQ IU agj RZ agk XD hjl
    have ais:=rX.lt
    have aaN:=vv.lt
    have aaO:=vv.iy
    have agl:∀q,(fun q=>q<=w1.heap.size) q->q < Kt.heap.size:=fun q hq=>Nat.lt_of_lt_of_le (jU q hq) air
    have abl:∀q,(Value.slice A1 aU.length c1).ownBlock=some q->w.heap.size<=q:=fun q e=>by have:=gy q e;omega
    cases pR:(decide (sx.e=0) && !decide (kind sx.l=0)) with
    |true=>
     simp only [pR,if_true] at hq
     obtain ⟨t1,s1,h1,hq⟩:=bF hq
     have HK:=af (fun W hW=>(agf n (by omega)).decl E W _ t1 s1 hW h1)
     have HQ:=af hq
     clear pR h1 hq
     go_wp2
     obtain ⟨_,_,_,_,_,_,_,RD,abm⟩:=rX.av
     refine dD E.b E.L w1.heap.size (.pointer (some ⟨E.b,0,none⟩)) 28 #[.pointer (some ⟨E.b,0,none⟩)] (fun _=>False) (fun t W=>t=t1/\RS E W s1) (Gh.x dO) Gh agl RD (abm 6) E.bL rX.lt vv.L fT (by unfold cK at*;omega) (fun t=>bD E _ _ _ (by omega) (by omega) t) (fun t=>bD E _ _ _ E.bL E.gL t) ((HK.out Kt.drew vv.drew).mono fun e w' h=>fH h) ?_ ?_
     ·rintro a w' c _ nL _
      exact absurd nL id
     rintro vals w' A41 c41 u41 ⟨ait,qx⟩ _ hpx hgx eB hgo
     obtain rfl:=ait.symm
     obtain ⟨vD,hW⟩:=aS (w'.setCell ⟨w1.heap.size,6,none⟩ (.slice A41 (aU.length+1) c41))
     have hsx:=eB.size
     have Hl:RS E vD s1:=hW▸qx.setCell (p:=⟨w1.heap.size,6,none⟩) fT kG _
     have DY:Gr (·=E.b) w vD:=hW▸Gr.setCell (p:=⟨w1.heap.size,6,none⟩) (jD Hg eB abl) (.inl (by show w.heap.size<=w1.heap.size;omega)) _
     have agm:∀q,(Value.slice A41 (aU.length+1) c41).ownBlock=some q->w.heap.size<=q:=fun q hq=>(hgo q hq).elim (abl q) (fun h=>by have:=Hg.size;omega)
     have oM:ag vD w1.heap.size 24 (N7 1 0 0 ⟨#[]⟩ (bs (ay (jR s0))) (hdp s0) (.slice A41 (aU.length+1) c41)):=hW▸ag.jC (ag.wx rX eB fT (fun e=>Gh.1 _ e dO)) _
     have mZ:ag vD w.heap.size 24 Z7:=hW▸ag.far (ag.wx wB eB (by omega) (fun e=>Gh.1 _ e cB)) (by show w.heap.size≠w1.heap.size;omega) _
     have aiu:=oM.lt
     have KE:ah vD E.L (fun q=>q<=w1.heap.size) (.slice A41 (aU.length+1) c41) (aU ++ [t1]):=hW▸hpx.setCell (p:=⟨w1.heap.size,6,none⟩) (.inr dO) _
     rw [hW]
     clear hW qx hpx hgx eB hgo hsx
     obtain ⟨bN,jf⟩:=aS (aU ++ [t1])
     have uZ:bN.length=aU.length+1:=by rw [<-jf,List.length_append];rfl
     rw [jf,<-uZ] at KE
     rw [<-uZ] at oM
     try rw [<-uZ] at agm
     have hq:=HQ.out
     simp only [Tr.add,jf] at hq
     have Cq:=af hq
     clear hq
     have hpo:∀q,(Value.slice A41 bN.length c41).ownBlock=some q->w.heap.size+1 < q:=fun q e=>by
      have h1:=(KE.own e).1
      omega
     go_wp2
     go_roundg f
     case measure=>omega
     case rel=>exact ⟨bN,A41,c41,_,Hl,oM,mZ,KE,DY,hpo,by omega,by omega,by omega,Cq.out⟩
    |false=>
    simp only [pR,Bool.false_eq_true,if_false,Option.some.injEq,Prod.mk.injEq] at hq
    obtain ⟨rfl,rfl⟩:=hq
    obtain ⟨_,_,_,_,_,_,e3,e4,_⟩:=vv.here
    by_cases he:sx.e=0
    case neg=>
     have ce1:(sx.e != 0)=true:=by simpa using he
     have HR1:=af (show RR=(eU,sx.p,sx.e) from by rw [<-HRR.out];unfold Yo;rw [if_neg he])
     have agn:=e4
     have agp:=e3
     clear pR he
     go_wp2
     refine wp_region_held_drew (S:=fun V=>Gr (fun q=>q=w.heap.size) Kt V) (by kernel_rfl) (Gr.refl _).drew (fun hS0=>?_)
     obtain ⟨vD,yc⟩:=aS Kt.drew
     rw [yc] at hS0 |-
     have nH:Gr (fun q=>q=w.heap.size) Kt vD:=hS0
     clear hS0
     have Hl:=dJ yc (RS.drew vv)
     have DY:=bK yc (Gr.drew Hg)
     have mZ:=aP yc (ag.drew wB)
     have oM:=aP yc (ag.drew rX)
     refine aQ 0 nH ?_
     refine aQ 1 nH ?_
     refine aQ 2 nH ?_
     refine aQ 3 nH ?_
     refine jS 4 nH ?_ (fun w' hS=>(hS.cell (p:=⟨E.b,4,none⟩) (by show E.b < _;omega) (by show ¬(E.b=w.heap.size);omega)).trans agn)
     refine aQ 5 nH ?_
     refine aQ 6 nH ?_
     refine aQ 7 nH ?_
     refine jS 8 nH ?_ (fun w' hS=>(hS.cell (p:=⟨E.b,3,none⟩) (by show E.b < _;omega) (by show ¬(E.b=w.heap.size);omega)).trans agp)
     refine qO 9 ?_
     obtain ⟨Dj,F6⟩:=aS (fA vD w.heap.size 0 (.int .i64 0) (.int .i64 0) (.int .i64 0) (.string ⟨#[]⟩) (.string ⟨#[]⟩) (.int .i64 0) (.slice none 0 0))
     have wK:Gr (fun q=>q=w.heap.size) vD Dj:=by rw [<-F6];exact fQ (Gr.refl _) (.inr rfl)
     have F7:ag Dj w.heap.size 24 Z7:=by rw [<-F6];exact ag.fA mZ (.int .i64 0) (.int .i64 0) (.int .i64 0) (.string ⟨#[]⟩) (.string ⟨#[]⟩) (.int .i64 0) (.slice none 0 0)
     have acO:Gr (·=E.b) w Dj:=Gr.wide DY wK (fun q hq e=>by first|omega|(exfalso;omega))
     have PU:Gr (fun q=>q=w.heap.size) Kt Dj:=Gr.wide nH wK (fun q hq e=>by have e2:q=w.heap.size:=e;first|(right;exact e2)|(exfalso;omega)|omega)
     refine iD _ _ _ _ _ _ _ w.heap.size 0 (0) (0) (0) ([]) ([]) (0) (0) (0) none rfl rfl (ag.sw mZ) (fun q=>mZ.frozen q) ?_
     show Gr (fun q=>q=w.heap.size) Kt (fA vD w.heap.size 0 (.int .i64 0) (.int .i64 0) (.int .i64 0) (.string ⟨#[]⟩) (.string ⟨#[]⟩) (.int .i64 0) (.slice none 0 0))/\wpAnyH _ _ _ _ _ _ _ _ (fA vD w.heap.size 0 (.int .i64 0) (.int .i64 0) (.int .i64 0) (.string ⟨#[]⟩) (.string ⟨#[]⟩) (.int .i64 0) (.slice none 0 0))
     rw [F6]
     refine And.intro PU ?_
     simp only [Act.put,List.getElem_toArray,List.getElem_cons_zero,List.getElem_cons_succ,List.setIfInBounds_toArray,List.set_cons_zero,List.set_cons_succ]
     refine aQ 10 PU ?_
     refine aQ 11 PU ?_
     refine eZ ?_
     go_wp2
     obtain rfl:=HR1.out
     exact bodyPost_ret (KD _ Dj w.heap.size _ _ _ _ _ _ _ _ _ rfl rfl rfl F7) rfl ⟨acO.below (fun q hq e=>by omega),0,0,0,[],[],0,[],none,0,rfl,rfl,aI.nil _ _ 0⟩
    have ce1:(sx.e != 0)=false:=by simpa using he
    have hrep:=ah.rep Gh 1 0 0 [] (ay (jR s0)) (hdp s0)
    obtain ⟨tr,htr⟩:=aS (Tr.mk 1 0 0 [] (ay (jR s0)) (hdp s0) aU)
    rw [htr] at hrep
    have HTR:=af htr
    have HME:=af (fun (W:World) (hW:Below Kt.heap.size Kt W)=>show Calls Tryz.prog 15 #[.agg #[.int .i64 1,.int .i64 0,.int .i64 0,.string ⟨#[]⟩,.string (bs (ay (jR s0))),.int .i64 (hdp s0),.slice A1 aU.length c1],.int .i64 3000] W (XB tr 3000 W) from MZ tr.nodes tr (Nat.le_refl _) 3000 W _ _ (hrep.aC hW) (by decide))
    have agq:Yo tr sx=(if 3000 < tr.nodes then (eU,0,2) else if 100 < tr.deep then (eU,0,3) else (tr,0,0)):=by unfold Yo;rw [if_pos he]
    have yl:RR=_:=HRR.out.symm.trans ((show Yo (.mk 1 0 0 [] (ay (jR s0)) (hdp s0) aU) sx=Yo tr sx from by rw [htr]).trans agq)
    clear pR he hrep htr agq
    obtain ⟨_,aaX,aaY,aaZ,aa0,aa1,aa2,RD,abm⟩:=rX.av
    obtain ⟨_,aaP,aaQ,aaR,aaS,aaT,aaU,aaV,aaW⟩:=wB.av
    by_cases hbig:3000 < tr.nodes
    ·rw [if_pos hbig] at yl
     have HR1:=af yl
     clear yl
     have hmin:min tr.nodes (3000+1)=3001:=by omega
     clear hbig
     go_wp2_with (first
      |(go_at_call 15;refine (HME.out _ (Below.refl _ _)).mono ?_;rintro e vD ⟨dd,rfl,xg,_,_⟩;have DY:Gr (·=E.b) w vD:=Gr.trans Hg (Gr.of_below xg);rw [hmin];have mZ:ag vD w.heap.size 24 Z7:=ag.aC bz xg;obtain ⟨_,RF,RG,RH,RI,RJ,RL,RN,RO⟩:=mZ.av))
     obtain rfl:=HR1.out
     exact bodyPost_ret (KD _ _ w.heap.size _ _ _ _ _ _ _ _ _ rfl rfl rfl dS) rfl ⟨Gr.below (S:=fun q=>q=E.b) aJ (fun q hq e=>by omega),0,0,0,[],[],0,[],none,0,rfl,rfl,aI.nil _ _ 0⟩
    rw [if_neg hbig] at yl
    obtain ⟨tn,htn⟩:=aS tr.nodes
    obtain ⟨td,htd⟩:=aS tr.deep
    have hmin:min tr.nodes (3000+1)=tn:=by omega
    have ane:(tn:Int)<=3000:=by omega
    have anf:(0:Int)<=(tn:Int):=by omega
    have hle:tr.nodes<=3000:=by omega
    rw [htd] at yl
    have HTD:=af htd
    clear htd htn hbig
    by_cases Zw:100 < td
    ·rw [if_pos Zw] at yl
     have HR1:=af yl
     clear yl
     have U1:(100:Int) < (td:Int):=by omega
     have aiv:¬(3000:Int) < (tn:Int):=by omega
     clear Zw
     go_wp2_with (first
      |(go_at_call 15;refine (HME.out _ (Below.refl _ _)).mono ?_;rintro e vD ⟨dd,rfl,xg,_,XE⟩;have DY:Gr (·=E.b) w vD:=Gr.trans Hg (Gr.of_below xg);rw [hmin];obtain rfl:=(XE hle).trans HTD.out;clear XE;have mZ:ag vD w.heap.size 24 Z7:=ag.aC bz xg;obtain ⟨_,RF,RG,RH,RI,RJ,RL,RN,RO⟩:=mZ.av))
     obtain rfl:=HR1.out
     exact bodyPost_ret (KD _ _ w.heap.size _ _ _ _ _ _ _ _ _ rfl rfl rfl dS) rfl ⟨Gr.below (S:=fun q=>q=E.b) aJ (fun q hq e=>by omega),0,0,0,[],[],0,[],none,0,rfl,rfl,aI.nil _ _ 0⟩
    rw [if_neg Zw] at yl
    have HR1:=af yl
    clear yl
    have U1:¬(100:Int) < (td:Int):=by omega
    have aiv:¬(3000:Int) < (tn:Int):=by omega
    clear Zw
    go_wp2_with (first
     |(go_at_call 15;refine (HME.out _ (Below.refl _ _)).mono ?_;rintro e vD ⟨dd,rfl,xg,hdd,XE⟩;have DY:Gr (·=E.b) w vD:=Gr.trans Hg (Gr.of_below xg);rw [hmin];obtain rfl:=(XE hle).trans HTD.out;clear XE;have mZ:ag vD w.heap.size 24 Z7:=ag.aC bz xg;obtain ⟨_,RF,RG,RH,RI,RJ,RL,RN,RO⟩:=mZ.av;have oM:ag vD w1.heap.size 24 (N7 1 0 0 ⟨#[]⟩ (bs (ay (jR s0))) (hdp s0) (.slice A1 aU.length c1)):=ag.aC bz xg;obtain ⟨_,aa3,aa4,aa5,aa6,aa7,aa8,aa9,_⟩:=oM.av;have KE:ah vD E.L (fun q=>q<=w1.heap.size) (.slice A1 aU.length c1) aU:=ah.aC nR xg))
    obtain rfl:=HR1.out
    exact bodyPost_ret (KD _ _ w.heap.size _ _ _ _ _ _ _ _ _ rfl rfl rfl dS) rfl ⟨Gr.below (S:=fun q=>q=E.b) aJ (fun q hq e=>by omega),1,0,0,[],(ay (jR s0)),(hdp s0),aU,A1,c1,HTR.out.symm,rfl,(ah.up (lo:=E.L) (X:=(fun q=>q<=w1.heap.size)) (v:=.slice A1 aU.length c1) (ks:=aU) uu (fun q hq=>by have:¬q<=w1.heap.size:=hq;omega))⟩
theorem mI {m:Nat} (hm:4<=m) (f:F5) (s:St) (h:s.e≠0):kI (m5 m f s) s:=by
 obtain ⟨k,rfl⟩:∃k,m=k+4:=⟨m - 4,by omega⟩
 exact Zx k f s h
theorem kZ (t:Tr) (s:St) (k:Tr->St->Option (Tr × St)):ob (some (t,s)) k=k t s:=rfl
theorem qE (x:Option (Tr × St)) (f k:Tr->St->Option (Tr × St)):ob (ob x f) k=ob x fun t s=>ob (f t s) k:=by
 cases x with
 |none=>rfl
 |some y=>rfl
theorem gG {s:St} (h:s.e≠0):decide (s.e=0)=false:=decide_eq_false h
theorem BP {g h:Tr->Tr} {q:Tr->Tr} {R0:R} {o:Nat} {x:Option (Tr × St)} (h1:cu g R0 o x) (hq:∀t,g t=h (q t)):cu h (bnd R0 fun t l=>.ok (q t) l) o x:=by
 cases R0 with
 |ok t l=>exact (h1:x=_).trans (by rw [hq])
 |bad a e=>exact h1
 |out=>exact trivial
theorem wD {l:List T} (h:mark l≠[]):kind l=2\/kind l=5:=by
 cases l with
 |nil=>exact absurd rfl h
 |cons x r=>
  by_cases hk:x.1.k=2\/x.1.k=5
  ·exact hk
  ·exact absurd (by simp [mark,hk]) h
theorem gN (x:T) (r:List T) (o:Nat) (m:List UInt8) (h:mark (x :: r)=m) (h1:opens m=false) (h2:closes m=false):aj m (M (x :: r) o)=M r o:=by
 unfold aj
 rw [iE,decide_eq_true h,if_pos rfl,if_neg (by rw [h1];decide),if_neg (by rw [h2];decide)]
 rfl
theorem ym (x:T) (r:List T) (o:Nat) (m:List UInt8) (h:mark (x :: r)=m) (h1:opens m=false) (h2:closes m=true):aj m (M (x :: r) (o+1))=M r o:=by
 unfold aj
 rw [iE,decide_eq_true h,if_pos rfl,if_neg (by rw [h1];decide),if_pos h2]
 have e:((o+1:Nat):Int) - 1=(o:Int):=by omega
 simp [St.tl,e]
theorem XF (m:List UInt8) (h:(nC m).2≠0):m≠[]/\opens m=false/\closes m=false/\(nC m).2<=5:=by
 unfold nC at h |-
 by_cases h18:m=[124,124]
 ·subst h18;exact ⟨nofun,by decide,by decide,by decide⟩
 rw [if_neg h18] at h |-
 by_cases Em:m=[38,38]
 ·subst Em;exact ⟨nofun,by decide,by decide,by decide⟩
 rw [if_neg Em] at h |-
 by_cases h11:m=[61,61]
 ·subst h11;exact ⟨nofun,by decide,by decide,by decide⟩
 rw [if_neg h11] at h |-
 by_cases h12:m=[33,61]
 ·subst h12;exact ⟨nofun,by decide,by decide,by decide⟩
 rw [if_neg h12] at h |-
 by_cases Ei:m=[60]
 ·subst Ei;exact ⟨nofun,by decide,by decide,by decide⟩
 rw [if_neg Ei] at h |-
 by_cases Ej:m=[60,61]
 ·subst Ej;exact ⟨nofun,by decide,by decide,by decide⟩
 rw [if_neg Ej] at h |-
 by_cases El:m=[62]
 ·subst El;exact ⟨nofun,by decide,by decide,by decide⟩
 rw [if_neg El] at h |-
 by_cases h16:m=[62,61]
 ·subst h16;exact ⟨nofun,by decide,by decide,by decide⟩
 rw [if_neg h16] at h |-
 by_cases h1:m=[43]
 ·subst h1;exact ⟨nofun,by decide,by decide,by decide⟩
 rw [if_neg h1] at h |-
 by_cases h2:m=[45]
 ·subst h2;exact ⟨nofun,by decide,by decide,by decide⟩
 rw [if_neg h2] at h |-
 by_cases h3:m=[42]
 ·subst h3;exact ⟨nofun,by decide,by decide,by decide⟩
 rw [if_neg h3] at h |-
 by_cases h4:m=[47]
 ·subst h4;exact ⟨nofun,by decide,by decide,by decide⟩
 rw [if_neg h4] at h |-
 by_cases h5:m=[37]
 ·subst h5;exact ⟨nofun,by decide,by decide,by decide⟩
 rw [if_neg h5] at h
 exact absurd rfl h
def Zy (m:Nat) (t:Tr) (s:St):Option (Tr × St):=
 if bX [40] (aj [46] s)=true then ob (m5 m .kind (aj [40] (aj [46] s))) fun u s1=>some (.mk 37 0 0 [] [] (hdp s) [t,u],aj [41] s1)
 else some (.mk 36 0 0 [] (ay (aj [46] s)) (hdp s) [t],aG (aj [46] s))
def Gi (m:Nat) (s:St):Option (Tr × St):=
 if (aj [93] (aj [91] s)).e=0 then ob (m5 m .kind (aj [93] (aj [91] s))) fun t s1=>m5 m (.several (.mk 40 0 0 [] [] (hdp s) [t]) [125]) (aj [123] s1)
 else some (.mk 40 0 0 [] [] (hdp s) [],aj [93] (aj [91] s))
def Gj (m:Nat) (s:St):Option (Tr × St):=ob (m5 m (.params (.mk 41 0 0 [] [] (hdp s) [])) (aj [102,117,110,99] s)) fun nd s1=>ob (m5 m .block s1) fun b s2=>some (nd.add b,s2)
def forM (m:Nat) (s:St):Option (Tr × St):=
 if bX [123] (aj [102,111,114] s)=true then ob (m5 m .block (aj [102,111,114] s)) fun b s1=>some (.mk 22 0 0 [] [] (hdp s) [b],s1)
 else ob (m5 m (.expr 1) (aj [102,111,114] s)) fun x s1=>ob (m5 m .block s1) fun b s2=>some (.mk 22 0 1 [] [] (hdp s) [x,b],s2)
def acZ (m:Nat) (s:St):Option (Tr × St):=
 if bX [59] (aj [114,101,116,117,114,110] s)=true then some (.mk 25 0 0 [] [] (hdp s) [],aj [59] (aj [114,101,116,117,114,110] s))
 else ob (m5 m (.expr 1) (aj [114,101,116,117,114,110] s)) fun x s1=>some (.mk 25 0 0 [] [] (hdp s) [x],aj [59] s1)
def ac0 (m:Nat) (s:St):Option (Tr × St):=ob (m5 m (.expr 1) (aj [58,61] s.tl)) fun x s1=>some (.mk 18 0 0 [] (hdt s) (hdp s) [x],aj [59] s1)
def ac1 (m:Nat) (s:St):Option (Tr × St):=ob (m5 m (.expr 1) s) fun x s1=>
 if bX [61] s1=true then ob (m5 m (.expr 1) (aj [61] s1)) fun y s2=>some (.mk 19 0 0 [] [] (hdp s1) [x,y],aj [59] s2)
 else some (.mk 20 0 0 [] [] (hdp s1) [x],aj [59] s1)
def R4 (m:Nat) (s:St):Option (Tr × St):=if bX [105,102] s=true then m5 m .uq s else m5 m .block s
def KZ:Pt->List UInt8->Prop
 | .expr,c=>c=[41]\/c=[125]
 | .key,c=>c=[125]
 | .param,c=>c=[41]
 | .typeOf,c=>c=[41]
 |_,_=>False
def Aj:Pt->List UInt8->Tr->F5
 | .expr,c,nd=>.xA nd c
 | .key,_,nd=>.EA nd
 | .param,_,nd=>.AZ nd
 |_,_,nd=>.Ez nd
def Zz:Pt->Nat->St->Option (Tr × St)
 | .expr,m,s=>m5 m (.expr 1) s
 | .key,m,s=>ob (m5 m (.expr 1) (aj [58] (aG s))) fun x s1=>some (.mk 39 0 0 [] (ay s) (hdp s) [x],s1)
 | .param,m,s=>ob (m5 m .kind (aG s)) fun t s1=>some (.mk 12 0 0 [] (ay s) (hdp s) [t],s1)
 |_,m,s=>m5 m .kind s
def Yt (m:Nat) (p:Pt) (c:List UInt8) (nd:Tr) (s:St):Option (Tr × St):=if bX [44] s=true then m5 m (Aj p c nd) (jN c s) else some (nd,s)
theorem R5 (p:Pt):¬KZ p (mark []):=by cases p <;> simp [KZ,mark]
theorem KF (p:Pt) (c:List UInt8) (h:KZ p c) (nd:Tr) (m:Nat) (s:St):m5 (m+1) (Aj p c nd) s=if rH c s=true then ob (Zz p m s) fun t s1=>Yt m p c (nd.add t) s1 else some (nd,s):=by
 cases p with
 |expr=>simp only [Aj,m5,Zz,Yt]
 |typeOf=>cases h;simp only [Aj,m5,Zz,Yt]
 |param=>cases h;simp only [Aj,m5,Zz,Yt,qE,kZ]
 |key=>cases h;simp only [Aj,m5,Zz,Yt,qE,kZ]
 |_=>exact absurd h id
theorem TV {p:Pt} {c:List UInt8} (h:KZ p c):c=[41]\/c=[125]:=by
 cases p with
 |expr=>exact h
 |key=>exact .inr h
 |param=>exact .inl h
 |typeOf=>exact .inl h
 |_=>exact absurd h id
theorem XG (n:Nat) (p:Pt) (l:List T) (o:Nat) (c:List UInt8) (h:KZ p c) (hm:mark l=c):go n p.nt l o= .out\/go n p.nt l o= .bad (hd l).2 5:=by
 cases l with
 |nil=>rw [<-hm] at h;exact absurd h (R5 p)
 |cons x r=>
  have hc:=TV h
  have hne:mark (x :: r)≠[]:=by rw [hm];rcases hc with rfl|rfl <;> exact nofun
  have hk:=wD hne
  have k1:¬kind (x :: r)=1:=by rcases hk with h|h <;> rw [h] <;> decide
  have k3:¬kind (x :: r)=3:=by rcases hk with h|h <;> rw [h] <;> decide
  have k4:¬kind (x :: r)=4:=by rcases hk with h|h <;> rw [h] <;> decide
  have hb:refuse (x :: r)= .bad (Go.Proofs.YtnhidldofjengaaGreatDoor.hd (x :: r)).2 5:=rfl
  have hw:∀f,fu 1 (x :: r) f= .bad (Go.Proofs.YtnhidldofjengaaGreatDoor.hd (x :: r)).2 5:=fun f=>by unfold fu;rw [if_neg k1];rfl
  rcases n with _|_|_|_|_|_|n
  ·exact .inl rfl
  all_goals
   rcases hc with rfl|rfl <;> cases p <;> first
    |(exfalso;simp [KZ] at h;done)
    |(simp [Pt.nt,go,hm,k1,k3,k4,hw,hb,bnd,KV,builtin];done)
theorem M4 (p:Pt) (c:List UInt8) (nd:Tr) (s:St) (m:Nat) (hm:4<=m) (hs:s.e≠0):kI (Yt m p c nd s) s:=by
 unfold Yt
 rw [di hs,if_neg (by decide)]
 exact jA _ _
theorem ac2 (l:List T) (o:Nat):Cj (M l o)=KV (mark l):=by simp [Cj,KV,bX,Bool.or_assoc]
theorem XH (l:List T) (o:Nat):iL (M l o)=begins l:=by
 simp only [iL,begins,wC,iE,KV]
 generalize decide (kind l=1)=a
 generalize decide (mark l=[105,110,116])=b
 generalize decide (mark l=[98,111,111,108])=c
 generalize decide (mark l=[115,116,114,105,110,103])=d
 generalize decide (mark l=[42])=e
 generalize decide (mark l=[91])=f
 generalize decide (mark l=[102,117,110,99])=g
 cases a <;> cases b <;> cases c <;> cases d <;> cases e <;> cases f <;> cases g <;> rfl
theorem TW (l:List T) (o:Nat):jI (M l o)=defines l:=by
 unfold jI defines
 rw [wC]
 rcases l with _|⟨x,_|⟨y,r⟩⟩
 ·rfl
 ·simp
 ·simp [kind,Bool.and_assoc]
  rfl
def wE (nd h:Tr):Tr:=if h.num=0 then nd.dY h.kids else (nd.AY h.num).dY h.kids
theorem yI (k op:Int) (p t:List UInt8) (a:Nat) (h:Tr):wE (.mk k op 0 p t a []) h= .mk k op h.num p t a h.kids:=by
 unfold wE
 split
 ·rename_i h0;rw [h0];rfl
 ·rfl
def R6:Pt->Tr->F5
 | .param,nd=>.params nd
 |_,nd=>.kinds nd
abbrev SM (n:Nat) (P:Nat->List T->Nat->Prop):Prop:=∀(m:Nat),3*n+20<=m->∀(l:List T) (o:Nat),o<=40->P m l o
structure wL (n:Nat):Prop where
 binary:SM n fun m l o=>∀k,1<=k->k<=6->cu id (go n (.binary k) l o) o (m5 m (.expr k) (M l o))
 Ca:SM n fun m l o=>∀k t,1<=k->cu id (go n (.Ca k t) l o) o (m5 m (.Ik k t) (M l o))
 unary:SM n fun m l o=>cu id (go n .unary l o) o (m5 m .unary (M l o))
 behind:SM n fun m l o=>∀t,cu id (go n (.behind t) l o) o (m5 m (.behind t) (M l o))
 lZ:SM n fun m l o=>∀t,cu id (go n (.lZ t) l o) o (Zy m t (M l o))
 made:SM n fun m l o=>cu id (go n .oq l o) o (m5 m .made (M l o))
 indexed:SM n fun m l o=>∀t,cu id (go n (.indexed t) l o) o (m5 m (.bracket (.mk 0 0 0 [] [] (hdp (M l o)) [t])) (M l o))
 expr:SM n fun m l o=>cu id (go n .expr l o) o (m5 m (.expr 1) (M l o))
 call:SM n fun m l o=>∀t,cu id (go n (.call t .expr) l o) o (m5 m (.several (.mk 33 0 0 [] [] (hdp (M l o)) [t]) [41]) (aj [40] (M l o)))
 lists:SM n fun m l o=>∀(p:Pt) (c:List UInt8) (nd:Tr) (acc:List Tr),KZ p c->cu (fun ks=>nd.dY ks.kids) (go n (.lists p acc) l o) o (Yt m p c (nd.dY acc) (M l o))
 elem:SM n fun m l o=>∀(p:Pt),(∃c,KZ p c)->cu id (go n p.nt l o) o (Zz p m (M l o))
 list:SM n fun m l o=>∀(p:Pt) (c:List UInt8) (nd:Tr),KZ p c->mark l≠c->cu (fun ks=>nd.dY ks.kids) (go n (.list p) l o) o (m5 m (Aj p c nd) (M l o))
 within:SM n fun m l o=>∀(p:Pt) (a c:List UInt8) (nd:Tr),KZ p c->((a=[40]/\c=[41])\/(a=[123]/\c=[125]))->cu (fun ks=>nd.dY ks.kids) (go n (.within a c p) l o) o (ob (m5 m (Aj p c nd) (aj a (M l o))) fun nd s=>some (nd,aj c s))
 typeName:SM n fun m l o=>cu id (go n .typeName l o) o (some (gp (M l o),gq (M l o)))
 named:SM n fun m l o=>∀k,cu id (go n (.named k) l o) o (ob (m5 m .kind (aG (M l o))) fun t s=>some (.mk k 0 0 [] (ay (M l o)) (hdp (M l o)) [t],s))
 typeOf:SM n fun m l o=>cu id (go n .typeOf l o) o (m5 m .kind (M l o))
 head:SM n fun m l o=>∀(p:Pt) (nd:Tr),(p= .typeOf\/p= .param)->cu (wE nd) (go n (.head p) l o) o (m5 m (R6 p nd) (M l o))
 iT:SM n fun m l o=>cu id (go n .iT l o) o (Gi m (M l o))
 iU:SM n fun m l o=>cu id (go n .iU l o) o (Gj m (M l o))
 kR:SM n fun m l o=>mark l=[109,97,107,101]->cu id (go n .kR l o) o (m5 m (.built [109,97,107,101] (hdp (M l o))) (M l o))
 jB:SM n fun m l o=>cu id (go n .jB l o) o (m5 m .round (M l o))
 first:SM n fun m l o=>cu id (go n .first l o) o (m5 m .first (M l o))
 jW:SM n fun m l o=>kind l≠1->kind l≠3->kind l≠4->cu id (go n .jW l o) o (m5 m .first (M l o))
 block:SM n fun m l o=>cu id (go n .block l o) o (m5 m .block (M l o))
 stats:SM n fun m l o=>∀(nd:Tr) (acc:List Tr),cu (fun ks=>nd.dY ks.kids) (go n (.stats acc) l o) o (m5 m (.zM (nd.dY acc)) (M l o))
 stat:SM n fun m l o=>cu id (go n .stat l o) o (m5 m .stat (M l o))
 branch:SM n fun m l o=>cu id (go n .branch l o) o (m5 m .uq (M l o))
 otherwise:SM n fun m l o=>cu id (go n .otherwise l o) o (R4 m (M l o))
 loop:SM n fun m l o=>cu id (go n .loop l o) o (forM m (M l o))
 leap:SM n fun m l o=>∀(k:Int) (x:T) (r:List T),l=x :: r->cu id (go n (.leap k) l o) o (some (.mk k 0 0 [] [] (hdp (M l o)) [],aj [59] (M l o).tl))
 nD:SM n fun m l o=>cu id (go n .nD l o) o (acZ m (M l o))
 define:SM n fun m l o=>defines l=true->cu id (go n .define l o) o (ac0 m (M l o))
 simple:SM n fun m l o=>cu id (go n .simple l o) o (ac1 m (M l o))
 dh:SM n fun m l o=>cu id (go n .dh l o) o (m5 m .dh (M l o))
theorem dB {F:St->Option (Tr × St)} (h:∀s,s.e≠0->kI (F s) s:=by intro s hs;repeat (first|exact jA _ _|exact mI (by omega) _ _ hs|(refine sK (mI (by omega) _ _ hs) hs ?_;intro t s hs)|(simp only [de hs,dw hs,di hs,dn hs,dns hs,dc hs,TU hs,Yp hs,Yq hs,Yr hs,df hs,kZ,hs,Bool.false_eq_true,if_false,gG hs,Bool.false_and]))):∀s,s.e≠0->kI (F s) s:=h
theorem uQ {F:Tr->St->Option (Tr × St)} (h:∀t s,s.e≠0->kI (F t s) s:=by intro t s hs;repeat (first|exact jA _ _|exact mI (by omega) _ _ hs|(refine sK (mI (by omega) _ _ hs) hs ?_;intro t s hs)|(simp only [de hs,dw hs,di hs,dn hs,dns hs,dc hs,TU hs,Yp hs,Yq hs,Yr hs,df hs,kZ,hs,Bool.false_eq_true,if_false,gG hs,Bool.false_and]))):∀t s,s.e≠0->kI (F t s) s:=h
theorem dBw {F:List UInt8->Nat->St->Option (Tr × St)} (h:∀t p s,s.e≠0->kI (F t p s) s:=by intro t p s hs;repeat (first|exact jA _ _|exact mI (by omega) _ _ hs|(refine sK (mI (by omega) _ _ hs) hs ?_;intro t s hs)|(simp only [de hs,dw hs,di hs,dn hs,dns hs,dc hs,TU hs,Yp hs,Yq hs,Yr hs,df hs,kZ,hs,Bool.false_eq_true,if_false,gG hs,Bool.false_and]))):∀t p s,s.e≠0->kI (F t p s) s:=h
theorem P8 (n:Nat) (H:wL n):SM (n+1) fun m l o=>∀k,1<=k->k<=6->cu id (go (n+1) (.binary k) l o) o (m5 m (.expr k) (M l o)):=by
 intro m hm l o ho k hk1 _
 obtain ⟨m,rfl⟩:∃k,m=k+1:=⟨m - 1,by omega⟩
 simp only [go,m5]
 exact bu (H.unary m (by omega) l o ho) (fun t l' _=>H.Ca m (by omega) l' o ho k t hk1) uQ
theorem XI (n:Nat) (H:wL n):SM (n+1) fun m l o=>∀k t,1<=k->cu id (go (n+1) (.Ca k t) l o) o (m5 m (.Ik k t) (M l o)):=by
 intro m hm l o ho k t hk1
 obtain ⟨m,rfl⟩:∃k,m=k+1:=⟨m - 1,by omega⟩
 simp only [go,m5]
 rw [if_pos trivial]
 by_cases hb:(nC (mark l)).2 < k
 ·rw [if_pos hb,if_pos hb]
  exact bM rfl
 ·rw [if_neg hb,if_neg hb]
  obtain ⟨h1,h2,h3,h4⟩:=XF (mark l) (by omega)
  cases l with
  |nil=>exact trivial
  |cons x r=>
   show cu id (bnd _ _) o _
   rw [gN x r o _ rfl h2 h3]
   exact bu (H.binary m (by omega) r o ho _ (by omega) (by omega)) (fun u l' _=>H.Ca m (by omega) l' o ho k _ hk1) uQ
theorem TY (n:Nat) (H:wL n):SM (n+1) fun m l o=>cu id (go (n+1) .unary l o) o (m5 m .unary (M l o)):=by
 intro m hm l o ho
 obtain ⟨m,rfl⟩:∃k,m=k+1:=⟨m - 1,by omega⟩
 simp only [go,m5]
 rw [if_pos trivial]
 simp only [iE,decide_eq_true_eq]
 by_cases h1:mark l=[45]
 ·rw [if_pos h1,if_pos h1]
  cases l with
  |nil=>exact trivial
  |cons x r=>exact bu (H.unary m (by omega) r o ho) (fun t l' _=>bM rfl) uQ
 rw [if_neg h1,if_neg h1]
 by_cases h2:mark l=[33]
 ·rw [if_pos h2,if_pos h2]
  cases l with
  |nil=>exact trivial
  |cons x r=>exact bu (H.unary m (by omega) r o ho) (fun t l' _=>bM rfl) uQ
 rw [if_neg h2,if_neg h2]
 by_cases h3:mark l=[38]
 ·rw [if_pos h3,if_pos h3]
  exact H.made m (by omega) l o ho
 rw [if_neg h3,if_neg h3]
 exact bu (H.first m (by omega) l o ho) (fun t l' _=>H.behind m (by omega) l' o ho t) uQ
theorem P9 (n:Nat) (H:wL n):SM (n+1) fun m l o=>∀t,cu id (go (n+1) (.behind t) l o) o (m5 m (.behind t) (M l o)):=by
 intro m hm l o ho t
 obtain ⟨m,rfl⟩:∃k,m=k+1:=⟨m - 1,by omega⟩
 simp only [go,m5]
 rw [if_pos trivial]
 simp only [iE,decide_eq_true_eq]
 by_cases h1:mark l=[40]
 ·rw [if_pos h1,if_pos h1]
  exact bu (H.call m (by omega) l o ho t) (fun t l' _=>H.behind m (by omega) l' o ho t) uQ
 rw [if_neg h1,if_neg h1]
 by_cases h2:mark l=[91]
 ·rw [if_pos h2,if_pos h2]
  exact bu (H.indexed m (by omega) l o ho t) (fun t l' _=>H.behind m (by omega) l' o ho t) uQ
 rw [if_neg h2,if_neg h2]
 by_cases h3:mark l=[46]
 ·rw [if_pos h3,if_pos h3]
  have:=bu (g:=id) (o':=o) (h:=id) (f:=fun t l=>go n (.behind t) l o) (k:=fun t s=>m5 m (.behind t) s) (H.lZ m (by omega) l o ho t) (fun t l' _=>H.behind m (by omega) l' o ho t) uQ
  refine Eq.mp (congrArg (cu id _ o) ?_) this
  unfold Zy
  split
  ·rw [qE];rfl
  ·rfl
 rw [if_neg h3,if_neg h3]
 exact bM rfl
theorem KG (n:Nat) (H:wL n):SM (n+1) fun m l o=>∀t,cu id (go (n+1) (.lZ t) l o) o (Zy m t (M l o)):=by
 intro m hm l o ho t
 simp only [go]
 unfold Zy
 refine dX (F:=fun s1=>if bX [40] s1=true then ob (m5 m .kind (aj [40] s1)) fun u s2=>some (.mk 37 0 0 [] [] (hdp (M l o)) [t,u],aj [41] s2) else some (.mk 36 0 0 [] (ay s1) (hdp (M l o)) [t],aG s1)) (by decide) (by decide) (fun x r hl _=>?_) dB
 subst hl
 simp only [iE,decide_eq_true_eq]
 by_cases h1:mark r=[40]
 ·rw [if_pos h1,if_pos h1]
  refine kP (F:=fun s1=>ob (m5 m .kind s1) fun u s2=>some (.mk 37 0 0 [] [] x.2 [t,u],aj [41] s2)) (by decide) ho (fun ho2 y r2 _ _=>?_) dB
  refine bu (H.typeOf m (by omega) r2 (o+1) (by omega)) (fun u l' _=>?_) uQ
  exact ja (F:=fun s=>some (.mk 37 0 0 [] [] x.2 [t,u],s)) (by decide) (by decide) (fun y r _ _=>bM rfl) dB
 ·rw [if_neg h1,if_neg h1]
  exact jK (F:=fun tx _ s=>some (.mk 36 0 0 [] tx x.2 [t],s)) (fun y r _ _=>bM rfl) dBw
theorem XJ (n:Nat) (H:wL n):SM (n+1) fun m l o=>cu id (go (n+1) .oq l o) o (m5 m .made (M l o)):=by
 intro m hm l o ho
 obtain ⟨m,rfl⟩:∃k,m=k+1:=⟨m - 1,by omega⟩
 simp only [go,m5]
 refine dX (F:=fun s=>ob (m5 m (.EA (.mk 38 0 0 [] [] (hdp (M l o)) [gp s])) (aj [123] (gq s))) fun nd s1=>some (nd,aj [125] s1)) (by decide) (by decide) (fun x r hl _=>?_) dB
 subst hl
 have h0:=H.typeName m (by omega) r o ho
 dsimp only at h0
 generalize gp (M r o)=nt at h0 |-
 generalize gq (M r o)=ns at h0 |-
 show cu id _ o (ob (some (nt,ns)) fun t s=>ob (m5 m (.EA (.mk 38 0 0 [] [] x.2 [t])) (aj [123] s)) fun nd s1=>some (nd,aj [125] s1))
 refine bu h0 (fun t l' _=>?_) uQ
 have h1:=H.within m (by omega) l' o ho .key [123] [125] (.mk 38 0 0 [] [] x.2 [t]) rfl (.inr ⟨rfl,rfl⟩)
 generalize go n (.within [123] [125] .key) l' o=R at h1 |-
 exact BP h1 (fun ks=>rfl)
theorem M5 (n:Nat) (H:wL n):SM (n+1) fun m l o=>∀t,cu id (go (n+1) (.indexed t) l o) o (m5 m (.bracket (.mk 0 0 0 [] [] (hdp (M l o)) [t])) (M l o)):=by
 intro m hm l o ho t
 obtain ⟨m,rfl⟩:∃k,m=k+1:=⟨m - 1,by omega⟩
 simp only [go,m5]
 refine kP (F:=fun s=>if bX [58] s=true then (if bX [93] (aj [58] s)=true then some ((Tr.mk 0 0 0 [] [] (hdp (M l o)) [t]).zo 35,aj [93] (aj [58] s)) else ob (m5 m (.expr 1) (aj [58] s)) fun y s1=>some ((((Tr.mk 0 0 0 [] [] (hdp (M l o)) [t]).zo 35).AY 2).add y,aj [93] s1)) else ob (m5 m (.expr 1) s) fun x s1=>if bX [58] s1=true then (if bX [93] (aj [58] s1)=true then some ((((Tr.mk 0 0 0 [] [] (hdp (M l o)) [t]).zo 35).AY 1).add x,aj [93] (aj [58] s1)) else ob (m5 m (.expr 1) (aj [58] s1)) fun y s2=>some (((((Tr.mk 0 0 0 [] [] (hdp (M l o)) [t]).zo 35).AY 3).add x).add y,aj [93] s2)) else some (((Tr.mk 0 0 0 [] [] (hdp (M l o)) [t]).zo 34).add x,aj [93] s1)) (by decide) ho (fun ho2 x r hl _=>?_) dB
 subst hl
 simp only [iE,decide_eq_true_eq]
 by_cases h1:mark r=[58]
 ·rw [if_pos h1,if_pos h1]
  cases r with
  |nil=>exact trivial
  |cons y r=>
   rw [gN y r (o+1) _ h1 (by decide) (by decide)]
   simp only [iE,decide_eq_true_eq,dI]
   by_cases h2:mark r=[93]
   ·rw [if_pos h2,if_pos h2]
    cases r with
    |nil=>exact trivial
    |cons z r=>
     rw [ym z r o _ h2 (by decide) (by decide)]
     exact bM rfl
   ·rw [if_neg h2,if_neg h2]
    refine bu (H.expr m (by omega) r (o+1) (by omega)) (fun u l' _=>?_) uQ
    exact ja (F:=fun s=>some (.mk 35 0 2 [] [] x.2 [t,u],s)) (by decide) (by decide) (fun y r _ _=>bM rfl) dB
 ·rw [if_neg h1,if_neg h1]
  refine bu (H.expr m (by omega) r (o+1) (by omega)) (fun u l' _=>?_) uQ
  simp only [iE,decide_eq_true_eq]
  by_cases h2:mark l'=[93]
  ·rw [if_pos h2,if_neg (by rw [h2];decide)]
   cases l' with
   |nil=>exact trivial
   |cons z r=>
    rw [id,ym z r o _ h2 (by decide) (by decide)]
    exact bM rfl
  ·rw [if_neg h2]
   by_cases h3:mark l'=[58]
   ·rw [if_pos h3]
    cases l' with
    |nil=>exact trivial
    |cons y r=>
     rw [gN y r (o+1) _ h3 (by decide) (by decide)]
     simp only [iE,decide_eq_true_eq,want,h3,if_true,dI]
     by_cases h4:mark r=[93]
     ·rw [if_pos h4,if_pos h4]
      cases r with
      |nil=>exact trivial
      |cons z r=>
       rw [ym z r o _ h4 (by decide) (by decide)]
       exact bM rfl
     ·rw [if_neg h4,if_neg h4]
      refine bu (H.expr m (by omega) r (o+1) (by omega)) (fun v l' _=>?_) uQ
      exact ja (F:=fun s=>some (.mk 35 0 3 [] [] x.2 [t,u,v],s)) (by decide) (by decide) (fun y r _ _=>bM rfl) dB
   ·rw [if_neg h3]
    unfold want
    rw [if_neg h3]
    rw [show aj [93] (M l' (o+1))=fE 5 (M l' (o+1)) from by unfold aj;rw [iE,decide_eq_false h2];rfl]
    exact oQ (F:=fun s=>some (.mk 34 0 0 [] [] x.2 [t,u],s)) dB
theorem M6 (n:Nat) (H:wL n):SM (n+1) fun m l o=>cu id (go (n+1) .expr l o) o (m5 m (.expr 1) (M l o)):=by
 intro m hm l o ho
 simp only [go]
 exact H.binary m (by omega) l o ho 1 (by omega) (by omega)
theorem XK (n:Nat) (H:wL n):SM (n+1) fun m l o=>∀t,cu id (go (n+1) (.call t .expr) l o) o (m5 m (.several (.mk 33 0 0 [] [] (hdp (M l o)) [t]) [41]) (aj [40] (M l o))):=by
 intro m hm l o ho t
 obtain ⟨m,rfl⟩:∃k,m=k+1:=⟨m - 1,by omega⟩
 simp only [go,m5]
 cases l with
 |nil=>exact trivial
 |cons x r=>
  have h1:=H.within m (by omega) (x :: r) o ho .expr [40] [41] (.mk 33 0 0 [] [] x.2 [t]) (.inl rfl) (.inl ⟨rfl,rfl⟩)
  show cu id (bnd (go n (.within [40] [41] .expr) (x :: r) o) fun ks l=>.ok (nd 33 x.2 (t :: ks.kids)) l) o _
  generalize go n (.within [40] [41] .expr) (x :: r) o=R at h1 |-
  exact BP h1 (fun ks=>rfl)
theorem TZ (n:Nat) (H:wL n):SM (n+1) fun m l o=>∀(p:Pt) (c:List UInt8) (nd:Tr) (acc:List Tr),KZ p c->cu (fun ks=>nd.dY ks.kids) (go (n+1) (.lists p acc) l o) o (Yt m p c (nd.dY acc) (M l o)):=by
 intro m hm l o ho p c nd acc hpc
 obtain ⟨m,rfl⟩:∃k,m=k+1:=⟨m - 1,by omega⟩
 simp only [go,Yt,iE,decide_eq_true_eq]
 by_cases h1:mark l=[44]
 ·rw [if_pos h1,if_pos h1]
  cases l with
  |nil=>exact trivial
  |cons x r=>
   simp only [dI]
   unfold jN
   rw [gN x r o _ h1 (by decide) (by decide),iE]
   by_cases h2:mark r=c
   ·rw [decide_eq_true h2,if_pos rfl]
    rcases XG n p r o c hpc h2 with h3|h3
    ·rw [h3];exact trivial
    ·rw [h3]
     cases r with
     |nil=>rw [<-h2] at hpc;exact absurd hpc (R5 p)
     |cons y r=>exact BO (mI (by omega) _ _ (by simp [fE])) (by simp [fE]) (by simp [fE]) (by decide)
   ·rw [decide_eq_false h2,if_neg (by decide),KF p c hpc,M3,decide_eq_false h2]
    simp only [Bool.not_false,if_true]
    refine bu (H.elem m (by omega) r o ho p ⟨c,hpc⟩) (fun t l' _=>?_) (fun t s hs=>M4 p c _ s m (by omega) hs)
    have:=H.lists m (by omega) l' o ho p c nd (acc ++ [t]) hpc
    rw [<-pM] at this
    exact this
 ·rw [if_neg h1,if_neg h1]
  exact bM rfl
theorem XL (n:Nat) (H:wL n):SM (n+1) fun m l o=>∀(p:Pt) (c:List UInt8) (nd:Tr),KZ p c->mark l≠c->cu (fun ks=>nd.dY ks.kids) (go (n+1) (.list p) l o) o (m5 m (Aj p c nd) (M l o)):=by
 intro m hm l o ho p c nd hpc hne
 obtain ⟨m,rfl⟩:∃k,m=k+1:=⟨m - 1,by omega⟩
 rw [KF p c hpc,M3,decide_eq_false hne]
 simp only [go,Bool.not_false,if_true]
 refine bu (H.elem m (by omega) l o ho p ⟨c,hpc⟩) (fun t l' _=>?_) (fun t s hs=>M4 p c _ s m (by omega) hs)
 have:=H.lists m (by omega) l' o ho p c nd [t] hpc
 rw [<-R3] at this
 exact this
theorem Qa (n:Nat) (H:wL n):SM (n+1) fun m l o=>∀(p:Pt) (a c:List UInt8) (nd:Tr),KZ p c->((a=[40]/\c=[41])\/(a=[123]/\c=[125]))->cu (fun ks=>nd.dY ks.kids) (go (n+1) (.within a c p) l o) o (ob (m5 m (Aj p c nd) (aj a (M l o))) fun nd s=>some (nd,aj c s)):=by
 intro m hm l o ho p a c nd hpc hac
 have ha:opens a=true:=by rcases hac with ⟨rfl,_⟩|⟨rfl,_⟩ <;> decide
 have hc1:opens c=false:=by rcases hac with ⟨_,rfl⟩|⟨_,rfl⟩ <;> decide
 have hc2:closes c=true:=by rcases hac with ⟨_,rfl⟩|⟨_,rfl⟩ <;> decide
 simp only [go]
 refine kP (F:=fun s=>ob (m5 m (Aj p c nd) s) fun nd s=>some (nd,aj c s)) ha ho (fun ho2 x r _ _=>?_) dB
 by_cases h1:mark r=c
 ·rw [if_pos h1]
  obtain ⟨m,rfl⟩:∃k,m=k+1:=⟨m - 1,by omega⟩
  rw [KF p c hpc,M3,decide_eq_true h1]
  show cu _ _ o (some (nd,aj c (M r (o+1))))
  exact ja (F:=fun s=>some (nd,s)) hc1 hc2 (fun y r _ _=>bM (by rw [show (NJ []).kids=[] from rfl,P7])) dB
 ·rw [if_neg h1]
  refine bu (H.list m (by omega) r (o+1) (by omega) p c nd hpc h1) (fun ks l' _=>?_) uQ
  exact ja (F:=fun s=>some (nd.dY ks.kids,s)) hc1 hc2 (fun y r _ _=>bM rfl) dB
theorem KH (n:Nat) (H:wL n):SM (n+1) fun m l o=>cu id (go (n+1) .typeName l o) o (some (gp (M l o),gq (M l o))):=by
 intro m _ l o _
 simp only [go]
 have e:(some (gp (M l o),gq (M l o)):Option (Tr × St))=(fun tx p s1=>if bX [46] s1=true then some (Tr.mk 13 0 0 tx (ay (aj [46] s1)) p [],aG (aj [46] s1)) else some (Tr.mk 13 0 0 [] tx p [],s1)) (ay (M l o)) (hdp (M l o)) (aG (M l o)):=by
  unfold gp gq
  by_cases hh:bX [46] (aG (M l o))=true <;> simp [hh]
 rw [e]
 refine jK (F:=fun tx p s1=>if bX [46] s1=true then some (Tr.mk 13 0 0 tx (ay (aj [46] s1)) p [],aG (aj [46] s1)) else some (Tr.mk 13 0 0 [] tx p [],s1)) (fun x r hl _=>?_) dBw
 simp only [iE,decide_eq_true_eq]
 by_cases h1:mark r=[46]
 ·rw [if_pos h1,if_pos h1]
  cases r with
  |nil=>exact trivial
  |cons y r=>
   rw [gN y r o _ h1 (by decide) (by decide)]
   exact jK (F:=fun tx _ s=>some (Tr.mk 13 0 0 x.1.t tx x.2 [],s)) (fun y r _ _=>bM rfl) dBw
 ·rw [if_neg h1,if_neg h1]
  exact bM rfl
theorem T9 (n:Nat) (H:wL n):SM (n+1) fun m l o=>∀k,cu id (go (n+1) (.named k) l o) o (ob (m5 m .kind (aG (M l o))) fun t s=>some (.mk k 0 0 [] (ay (M l o)) (hdp (M l o)) [t],s)):=by
 intro m hm l o ho k
 simp only [go]
 refine jK (F:=fun tx p s=>ob (m5 m .kind s) fun t s=>some (.mk k 0 0 [] tx p [t],s)) (fun x r _ _=>?_) dBw
 exact bu (H.typeOf m (by omega) r o ho) (fun t l' _=>bM rfl) uQ
theorem Gl (n:Nat) (H:wL n):SM (n+1) fun m l o=>cu id (go (n+1) .typeOf l o) o (m5 m .kind (M l o)):=by
 intro m hm l o ho
 obtain ⟨m,rfl⟩:∃k,m=k+1:=⟨m - 1,by omega⟩
 simp only [go,m5]
 rw [ac2]
 by_cases h0:KV (mark l)=true
 ·rw [if_pos h0,if_pos h0]
  cases l with
  |nil=>exact trivial
  |cons x r=>exact bM rfl
 rw [if_neg h0,if_neg h0]
 simp only [iE,wC,decide_eq_true_eq]
 by_cases hn:kind l=1
 ·rw [if_pos hn]
  have hm0:mark l=[]:=Classical.byContradiction fun h=>by have:=wD h;omega
  rw [if_neg (by rw [hm0];decide),if_neg (by rw [hm0];decide),if_neg (by rw [hm0];decide)]
  exact H.typeName m (by omega) l o ho
 rw [if_neg hn]
 by_cases h1:mark l=[42]
 ·rw [if_pos h1,if_pos h1]
  cases l with
  |nil=>exact trivial
  |cons x r=>
   rw [gN x r o _ h1 (by decide) (by decide)]
   exact bu (k:=fun t s=>some (.mk 14 0 0 [] [] x.2 [t],s)) (H.typeName m (by omega) r o ho) (fun t l' _=>bM rfl) uQ
 rw [if_neg h1,if_neg h1]
 by_cases h2:mark l=[91]
 ·rw [if_pos h2,if_pos h2]
  refine kP (F:=fun s=>if (aj [93] s).e=0 then ob (m5 m .kind (aj [93] s)) fun t s1=>some (.mk 15 0 0 [] [] (hdp (M l o)) [t],s1) else some (eU,aj [93] s)) (by decide) ho (fun _ x r hl _=>?_) dB
  subst hl
  refine ja (F:=fun s=>if s.e=0 then ob (m5 m .kind s) fun t s1=>some (.mk 15 0 0 [] [] x.2 [t],s1) else some (eU,s)) (by decide) (by decide) (fun y r _ _=>?_) dB
  rw [if_pos rfl]
  exact bu (H.typeOf m (by omega) r o ho) (fun t l' _=>bM rfl) uQ
 rw [if_neg h2,if_neg h2]
 by_cases h3:mark l=[102,117,110,99]
 ·rw [if_pos h3,if_pos h3]
  cases l with
  |nil=>exact trivial
  |cons x r=>
   rw [gN x r o _ h3 (by decide) (by decide)]
   exact BP (H.head m (by omega) r o ho .typeOf (.mk 16 0 0 [] [] x.2 []) (.inl rfl)) (fun h=>yI _ _ _ _ _ h)
 rw [if_neg h3,if_neg h3]
 rcases n with _|n
 ·exact trivial
 simp only [go,fu,if_neg hn]
 exact oQ (F:=fun s=>some (eU,s)) dB
theorem XM (n:Nat) (H:wL n):SM (n+1) fun m l o=>∀(p:Pt) (nd:Tr),(p= .typeOf\/p= .param)->cu (wE nd) (go (n+1) (.head p) l o) o (m5 m (R6 p nd) (M l o)):=by
 intro m hm l o ho p nd hp
 obtain ⟨m,rfl⟩:∃k,m=k+1:=⟨m - 1,by omega⟩
 have hpc:KZ p [41]:=by rcases hp with rfl|rfl <;> rfl
 have e:m5 (m+1) (R6 p nd) (M l o)=ob (ob (m5 m (Aj p [41] nd) (aj [40] (M l o))) fun nd s=>some (nd,aj [41] s)) fun nd s=>m5 m (.result nd) s:=by
  rw [qE]
  rcases hp with rfl|rfl <;> simp only [R6,m5,Aj,kZ]
 rw [e]
 simp only [go]
 refine bu (H.within m (by omega) l o ho p [40] [41] nd hpc (.inl ⟨rfl,rfl⟩)) (fun ks l' _=>?_) uQ
 obtain ⟨m,rfl⟩:∃k,m=k+1:=⟨m - 1,by omega⟩
 simp only [m5,XH]
 by_cases hb:begins l'=true
 ·rw [if_pos hb,if_pos hb]
  refine bu (H.typeOf m (by omega) l' o ho) (fun t l2 _=>bM ?_) uQ
  cases nd
  simp [wE,Tr.num,Tr.kids,Tr.AY,Tr.dY,Tr.add]
 ·rw [if_neg hb,if_neg hb]
  exact bM (by simp [wE,Tr.num,Tr.kids])
theorem DZ (n:Nat) (H:wL n):SM (n+1) fun m l o=>cu id (go (n+1) .iT l o) o (Gi m (M l o)):=by
 intro m hm l o ho
 obtain ⟨m,rfl⟩:∃k,m=k+1:=⟨m - 1,by omega⟩
 simp only [go]
 unfold Gi
 refine kP (F:=fun s=>if (aj [93] s).e=0 then ob (m5 (m+1) .kind (aj [93] s)) fun t s1=>m5 (m+1) (.several (.mk 40 0 0 [] [] (hdp (M l o)) [t]) [125]) (aj [123] s1) else some (.mk 40 0 0 [] [] (hdp (M l o)) [],aj [93] s)) (by decide) ho (fun _ x r hl _=>?_) dB
 subst hl
 refine ja (F:=fun s=>if s.e=0 then ob (m5 (m+1) .kind s) fun t s1=>m5 (m+1) (.several (.mk 40 0 0 [] [] x.2 [t]) [125]) (aj [123] s1) else some (.mk 40 0 0 [] [] x.2 [],s)) (by decide) (by decide) (fun y r _ _=>?_) dB
 rw [if_pos rfl]
 refine bu (H.typeOf (m+1) (by omega) r o ho) (fun t l' _=>?_) uQ
 have h1:=H.within m (by omega) l' o ho .expr [123] [125] (.mk 40 0 0 [] [] x.2 [t]) (.inr rfl) (.inr ⟨rfl,rfl⟩)
 have e:m5 (m+1) (.several (.mk 40 0 0 [] [] x.2 [id t]) [125]) (aj [123] (M l' o))=ob (m5 m (Aj .expr [125] (.mk 40 0 0 [] [] x.2 [t])) (aj [123] (M l' o))) fun nd s=>some (nd,aj [125] s):=by simp only [m5,Aj,id]
 rw [e]
 exact BP h1 (fun ks=>rfl)
theorem D5 (n:Nat) (H:wL n):SM (n+1) fun m l o=>cu id (go (n+1) .iU l o) o (Gj m (M l o)):=by
 intro m hm l o ho
 simp only [go]
 unfold Gj
 refine dX (F:=fun s=>ob (m5 m (.params (.mk 41 0 0 [] [] (hdp (M l o)) [])) s) fun nd s1=>ob (m5 m .block s1) fun b s2=>some (nd.add b,s2)) (by decide) (by decide) (fun x r hl _=>?_) dB
 subst hl
 refine bu (H.head m (by omega) r o ho .param (.mk 41 0 0 [] [] x.2 []) (.inr rfl)) (fun h l' _=>?_) uQ
 refine bu (H.block m (by omega) l' o ho) (fun b l2 _=>bM ?_) uQ
 rw [yI]
 rfl
theorem KI (n:Nat) (H:wL n):SM (n+1) fun m l o=>mark l=[109,97,107,101]->cu id (go (n+1) .kR l o) o (m5 m (.built [109,97,107,101] (hdp (M l o))) (M l o)):=by
 intro m hm l o ho hmk
 obtain ⟨m,rfl⟩:∃k,m=k+1:=⟨m - 1,by omega⟩
 simp only [go,m5]
 rw [if_pos trivial]
 cases l with
 |nil=>exact trivial
 |cons x r=>
 have hxt:x.1.t=[109,97,107,101]:=by
  rcases wD (l:=x :: r) (by rw [hmk];exact nofun) with h|h
  ·rw [<-hmk];simp [mark,show x.1.k=2 from h]
  ·rw [<-hmk];simp [mark,show x.1.k=5 from h]
 simp only [dI]
 rw [show (M (x :: r) o).tl=M r o from rfl]
 refine kP (F:=fun s=>if s.e=0 then ob (m5 m .kind s) fun k s1=>ob (m5 m (.expr 1) (aj [44] s1)) fun z s2=>some (.mk 33 0 0 [] [] (hdp (M r o)) [.mk 30 0 0 [] [109,97,107,101] x.2 [],k,z],aj [41] s2) else ob (m5 m (.expr 1) (aj [44] s)) fun z s2=>some (.mk 33 0 0 [] [] (hdp (M r o)) [.mk 30 0 0 [] [109,97,107,101] x.2 [],z],aj [41] s2)) (by decide) ho (fun ho2 y r2 hl _=>?_) dB
 subst hl
 rw [if_pos rfl]
 refine bu (H.typeOf m (by omega) r2 (o+1) (by omega)) (fun t l' _=>?_) uQ
 refine dX (F:=fun s=>ob (m5 m (.expr 1) s) fun z s2=>some (.mk 33 0 0 [] [] y.2 [.mk 30 0 0 [] [109,97,107,101] x.2 [],t,z],aj [41] s2)) (by decide) (by decide) (fun z r3 _ _=>?_) dB
 refine bu (H.expr m (by omega) r3 (o+1) (by omega)) (fun u l2 _=>?_) uQ
 rw [hxt]
 exact ja (F:=fun s=>some (.mk 33 0 0 [] [] y.2 [.mk 30 0 0 [] [109,97,107,101] x.2 [],t,u],s)) (by decide) (by decide) (fun y r _ _=>bM rfl) dB
theorem Gm (n:Nat) (H:wL n):SM (n+1) fun m l o=>cu id (go (n+1) .jB l o) o (m5 m .round (M l o)):=by
 intro m hm l o ho
 obtain ⟨m,rfl⟩:∃k,m=k+1:=⟨m - 1,by omega⟩
 simp only [go,m5]
 refine kP (F:=fun s=>if bX [42] s=true then some (.mk 42 0 0 [] (ay (aj [46] (aj [41] (gq (aj [42] s))))) (hdp (M l o)) [gp (aj [42] s)],aG (aj [46] (aj [41] (gq (aj [42] s))))) else ob (m5 m (.expr 1) s) fun x s1=>some (x,aj [41] s1)) (by decide) ho (fun ho2 x r hl _=>?_) dB
 subst hl
 simp only [iE,decide_eq_true_eq]
 by_cases h1:mark r=[42]
 ·rw [if_pos h1,if_pos h1]
  cases r with
  |nil=>exact trivial
  |cons y r=>
   rw [gN y r (o+1) _ h1 (by decide) (by decide)]
   simp only [dI]
   refine bu (k:=fun t s=>some (.mk 42 0 0 [] (ay (aj [46] (aj [41] s))) x.2 [t],aG (aj [46] (aj [41] s)))) (H.typeName m (by omega) r (o+1) (by omega)) (fun t l' _=>?_) uQ
   refine ja (F:=fun s=>some (.mk 42 0 0 [] (ay (aj [46] s)) x.2 [id t],aG (aj [46] s))) (by decide) (by decide) (fun z r2 _ _=>?_) dB
   refine dX (F:=fun s=>some (.mk 42 0 0 [] (ay s) x.2 [id t],aG s)) (by decide) (by decide) (fun z r2 _ _=>?_) dB
   exact jK (F:=fun tx _ s=>some (.mk 42 0 0 [] tx x.2 [id t],s)) (fun y r _ _=>bM rfl) dBw
 ·rw [if_neg h1,if_neg h1]
  refine bu (H.expr m (by omega) r (o+1) (by omega)) (fun t l' _=>?_) uQ
  exact ja (F:=fun s=>some (id t,s)) (by decide) (by decide) (fun y r _ _=>bM rfl) dB
theorem Ua (n:Nat) (H:wL n):SM (n+1) fun m l o=>cu id (go (n+1) .first l o) o (m5 m .first (M l o)):=by
 intro m hm l o ho
 obtain ⟨m,rfl⟩:∃k,m=k+1:=⟨m - 1,by omega⟩
 simp only [go,m5]
 simp only [iE,wC,decide_eq_true_eq,decide_true,Bool.true_and]
 by_cases h3:kind l=3
 ·rw [if_pos h3,if_pos h3]
  cases l with
  |nil=>exact trivial
  |cons x r=>exact bM rfl
 rw [if_neg h3,if_neg h3]
 by_cases h4:kind l=4
 ·rw [if_pos h4,if_pos h4]
  cases l with
  |nil=>exact trivial
  |cons x r=>exact bM rfl
 rw [if_neg h4,if_neg h4]
 by_cases h1:kind l=1
 ·have hm0:mark l=[]:=Classical.byContradiction fun h=>by have:=wD h;omega
  rw [if_pos h1,if_neg (by rw [hm0];decide),if_neg (by rw [hm0];decide),if_neg (by rw [hm0];decide),if_pos h1]
  cases l with
  |nil=>exact trivial
  |cons x r=>exact bM rfl
 rw [if_neg h1]
 have:=H.jW (m+1) (by omega) l o ho h1 h3 h4
 simp only [m5,iE,wC,decide_eq_true_eq,decide_true,Bool.true_and,if_neg h3,if_neg h4] at this
 exact this
theorem Ho (n:Nat) (H:wL n):SM (n+1) fun m l o=>kind l≠1->kind l≠3->kind l≠4->cu id (go (n+1) .jW l o) o (m5 m .first (M l o)):=by
 intro m hm l o ho k1 k3 k4
 obtain ⟨m,rfl⟩:∃k,m=k+2:=⟨m - 2,by omega⟩
 simp only [go,m5,iE,wC,decide_eq_true_eq,decide_true,Bool.true_and]
 rw [if_neg k3,if_neg k4]
 by_cases h1:mark l=[116,114,117,101]
 ·rw [if_pos h1,if_pos h1]
  cases l with
  |nil=>exact trivial
  |cons x r=>exact bM rfl
 rw [if_neg h1,if_neg h1]
 by_cases h2:mark l=[102,97,108,115,101]
 ·rw [if_pos h2,if_pos h2]
  cases l with
  |nil=>exact trivial
  |cons x r=>exact bM rfl
 rw [if_neg h2,if_neg h2]
 by_cases h3:mark l=[110,105,108]
 ·rw [if_pos h3,if_pos h3]
  cases l with
  |nil=>exact trivial
  |cons x r=>exact bM rfl
 rw [if_neg h3,if_neg h3,if_neg k1]
 by_cases h4:mark l=[40]
 ·rw [if_pos h4,if_pos h4]
  exact H.jB m (by omega) l o ho
 rw [if_neg h4,if_neg h4]
 by_cases h5:mark l=[91]
 ·rw [if_pos h5,if_pos h5]
  exact H.iT m (by omega) l o ho
 rw [if_neg h5,if_neg h5]
 by_cases h6:mark l=[102,117,110,99]
 ·rw [if_pos h6,if_pos h6]
  exact H.iU m (by omega) l o ho
 rw [if_neg h6,if_neg h6]
 have Gv:mV (M l o)=(builtin (mark l) || decide (mark l=[109,97,107,101])):=by
  simp only [mV,builtin,iE]
  generalize decide (mark l=[108,101,110])=a
  generalize decide (mark l=[97,112,112,101,110,100])=b
  generalize decide (mark l=[112,97,110,105,99])=c
  generalize decide (mark l=[112,117,116])=d
  generalize decide (mark l=[103,101,116])=e
  generalize decide (mark l=[109,97,107,101])=f
  cases a <;> cases b <;> cases c <;> cases d <;> cases e <;> cases f <;> rfl
 rw [Gv]
 have hte:∀x r,l=x :: r->mark l≠[]->x.1.t=mark l:=fun x r hl hne=>by
  subst hl
  rcases wD hne with h|h
  ·simp [mark,show x.1.k=2 from h]
  ·simp [mark,show x.1.k=5 from h]
 by_cases h7:builtin (mark l)=true
 ·rw [if_pos h7,h7]
  have hnm:mark l≠[109,97,107,101]:=fun h=>by rw [h] at h7;exact absurd h7 (by decide)
  have hne:mark l≠[]:=fun h=>by rw [h] at h7;exact absurd h7 (by decide)
  simp only [Bool.true_or,if_true]
  cases l with
  |nil=>exact trivial
  |cons x r=>
   have ht:=hte x r rfl hne
   have:=H.call m (by omega) r o ho (zm 30 x.1.t x.2 [])
   obtain ⟨m,rfl⟩:∃k,m=k+1:=⟨m - 1,by omega⟩
   simp only [dI]
   show cu id _ o (m5 (m+1) (.built x.1.t x.2) (M (x :: r) o))
   have h9:=H.call m (by omega) r o ho (zm 30 x.1.t x.2 [])
   simp only [m5]
   rw [if_neg (by rw [ht];exact hnm)]
   exact h9
 ·rw [if_neg h7]
  have h7':builtin (mark l)=false:=by simpa using h7
  rw [h7']
  simp only [Bool.false_or,decide_eq_true_eq]
  by_cases h8:mark l=[109,97,107,101]
  ·rw [if_pos h8,if_pos h8]
   cases l with
   |nil=>exact absurd h8 (by decide)
   |cons x r=>
    have ht:=hte x r rfl (by rw [h8];exact nofun)
    show cu id _ o (m5 m (.built x.1.t x.2) (M (x :: r) o))
    rw [ht,h8]
    exact H.kR m (by omega) (x :: r) o ho h8
  ·rw [if_neg h8,if_neg h8]
   exact oQ (F:=fun s=>some (eU,s)) dB
theorem Ub (n:Nat) (H:wL n):SM (n+1) fun m l o=>cu id (go (n+1) .block l o) o (m5 m .block (M l o)):=by
 intro m hm l o ho
 obtain ⟨m,rfl⟩:∃k,m=k+1:=⟨m - 1,by omega⟩
 simp only [go,m5]
 refine kP (F:=fun s=>ob (m5 m (.zM (.mk 17 0 0 [] [] (hdp (M l o)) [])) s) fun nd s1=>some (nd,aj [125] s1)) (by decide) ho (fun ho2 x r hl _=>?_) dB
 subst hl
 refine bu (H.stats m (by omega) r (o+1) (by omega) (.mk 17 0 0 [] [] x.2 []) []) (fun ks l' _=>?_) uQ
 exact ja (F:=fun s=>some ((Tr.mk 17 0 0 [] [] x.2 []).dY ks.kids,s)) (by decide) (by decide) (fun y r _ _=>bM rfl) dB
theorem Uc (n:Nat) (H:wL n):SM (n+1) fun m l o=>∀(nd:Tr) (acc:List Tr),cu (fun ks=>nd.dY ks.kids) (go (n+1) (.stats acc) l o) o (m5 m (.zM (nd.dY acc)) (M l o)):=by
 intro m hm l o ho nd acc
 obtain ⟨m,rfl⟩:∃k,m=k+1:=⟨m - 1,by omega⟩
 simp only [go,m5]
 rw [M3]
 by_cases h1:mark l=[125]
 ·rw [if_pos h1,decide_eq_true h1]
  exact bM rfl
 ·rw [if_neg h1,decide_eq_false h1]
  simp only [Bool.not_false,if_true]
  refine bu (H.stat m (by omega) l o ho) (fun t l' _=>?_) uQ
  have:=H.stats m (by omega) l' o ho nd (acc ++ [t])
  rw [<-pM] at this
  exact this
theorem XN (n:Nat) (H:wL n):SM (n+1) fun m l o=>cu id (go (n+1) .stat l o) o (m5 m .stat (M l o)):=by
 intro m hm l o ho
 obtain ⟨m,rfl⟩:∃k,m=k+1:=⟨m - 1,by omega⟩
 simp only [go,m5]
 simp only [iE,decide_eq_true_eq,Bool.or_eq_true]
 by_cases h:mark l=[118,97,114]
 ·rw [if_pos h,if_pos h]
  exact H.dh m (by omega) l o ho
 rw [if_neg h,if_neg h]
 clear h
 by_cases h:mark l=[123]
 ·rw [if_neg (by rw [h];decide),if_neg (by rw [h];decide),if_neg (by rw [h];decide),if_neg (by rw [h];decide),if_neg (by rw [h];decide),if_pos h,if_pos h]
  exact H.block m (by omega) l o ho
 rw [if_neg h (α:=Option (Tr × St))]
 have hbr:=h
 clear h
 by_cases h:mark l=[105,102]
 ·rw [if_pos h,if_pos h]
  exact H.branch m (by omega) l o ho
 rw [if_neg h,if_neg h]
 clear h
 by_cases h:mark l=[102,111,114]
 ·rw [if_pos h,if_pos h]
  exact H.loop m (by omega) l o ho
 rw [if_neg h,if_neg h]
 clear h
 by_cases h:mark l=[98,114,101,97,107]
 ·rw [if_pos h,if_pos (.inl h)]
  cases l with
  |nil=>exact absurd h (by decide)
  |cons x r=>
   have ht:¬hdt (M (x :: r) o)=[99,111,110,116,105,110,117,101]:=fun h2=>by
    have:mark (x :: r)=x.1.t:=by
     rcases wD (l:=x :: r) (by rw [h];exact nofun) with h|h
     ·simp [mark,show x.1.k=2 from h]
     ·simp [mark,show x.1.k=5 from h]
    rw [h,show x.1.t=[99,111,110,116,105,110,117,101] from h2] at this
    exact absurd this (by decide)
   rw [if_neg ht]
   exact H.leap m (by omega) (x :: r) o ho 23 x r rfl
 rw [if_neg h]
 have hnb:=h
 clear h
 by_cases h:mark l=[99,111,110,116,105,110,117,101]
 ·rw [if_pos h,if_pos (.inr h)]
  cases l with
  |nil=>exact absurd h (by decide)
  |cons x r=>
   have ht:hdt (M (x :: r) o)=[99,111,110,116,105,110,117,101]:=by
    have h2:mark (x :: r)=x.1.t:=by
     rcases wD (l:=x :: r) (by rw [h];exact nofun) with h|h
     ·simp [mark,show x.1.k=2 from h]
     ·simp [mark,show x.1.k=5 from h]
    show x.1.t=_
    rw [<-h2]
    exact h
   rw [if_pos ht]
   exact H.leap m (by omega) (x :: r) o ho 24 x r rfl
 rw [if_neg h,if_neg (show ¬(mark l=[98,114,101,97,107]\/mark l=[99,111,110,116,105,110,117,101]) from fun h2=>h2.elim hnb h)]
 clear h
 by_cases h:mark l=[114,101,116,117,114,110]
 ·rw [if_pos h,if_pos h]
  exact H.nD m (by omega) l o ho
 rw [if_neg h,if_neg h,if_neg hbr]
 obtain ⟨m,rfl⟩:∃k,m=k+1:=⟨m - 1,by omega⟩
 simp only [m5,TW]
 by_cases pR:defines l=true
 ·rw [if_pos pR,if_pos pR]
  exact H.define m (by omega) l o ho pR
 ·rw [if_neg pR,if_neg pR]
  exact H.simple m (by omega) l o ho
theorem Qb (n:Nat) (H:wL n):SM (n+1) fun m l o=>cu id (go (n+1) .branch l o) o (m5 m .uq (M l o)):=by
 intro m hm l o ho
 obtain ⟨m,rfl⟩:∃k,m=k+1:=⟨m - 1,by omega⟩
 simp only [go,m5]
 refine dX (F:=fun s=>ob (m5 m (.expr 1) s) fun x s1=>ob (m5 m .block s1) fun b s2=>if bX [101,108,115,101] s2=true then (if bX [105,102] (aj [101,108,115,101] s2)=true then ob (m5 m .uq (aj [101,108,115,101] s2)) fun y s3=>some (.mk 21 0 0 [] [] (hdp (M l o)) [x,b,y],s3) else ob (m5 m .block (aj [101,108,115,101] s2)) fun y s3=>some (.mk 21 0 0 [] [] (hdp (M l o)) [x,b,y],s3)) else some (.mk 21 0 0 [] [] (hdp (M l o)) [x,b],s2)) (by decide) (by decide) (fun x r hl _=>?_) dB
 subst hl
 refine bu (H.expr m (by omega) r o ho) (fun t l' _=>?_) uQ
 refine bu (H.block m (by omega) l' o ho) (fun u l' _=>?_) uQ
 simp only [iE,decide_eq_true_eq]
 by_cases h1:mark l'=[101,108,115,101]
 ·rw [if_pos h1,if_pos h1]
  cases l' with
  |nil=>exact trivial
  |cons y r=>
   rw [gN y r o _ h1 (by decide) (by decide)]
   simp only [dI,iE,decide_eq_true_eq]
   have h2:=H.otherwise m (by omega) r o ho
   unfold R4 at h2
   simp only [iE,decide_eq_true_eq] at h2
   by_cases h3:mark r=[105,102]
   ·rw [if_pos h3] at h2 |-
    exact bu h2 (fun v l' _=>bM rfl) uQ
   ·rw [if_neg h3] at h2 |-
    exact bu h2 (fun v l' _=>bM rfl) uQ
 ·rw [if_neg h1,if_neg h1]
  exact bM rfl
theorem Hq (n:Nat) (H:wL n):SM (n+1) fun m l o=>cu id (go (n+1) .otherwise l o) o (R4 m (M l o)):=by
 intro m hm l o ho
 simp only [go,R4,iE,decide_eq_true_eq]
 by_cases h1:mark l=[105,102]
 ·rw [if_pos h1,if_pos h1]
  exact H.branch m (by omega) l o ho
 ·rw [if_neg h1,if_neg h1]
  exact H.block m (by omega) l o ho
theorem XO (n:Nat) (H:wL n):SM (n+1) fun m l o=>cu id (go (n+1) .loop l o) o (forM m (M l o)):=by
 intro m hm l o ho
 simp only [go]
 unfold forM
 refine dX (F:=fun s=>if bX [123] s=true then ob (m5 m .block s) fun b s1=>some (.mk 22 0 0 [] [] (hdp (M l o)) [b],s1) else ob (m5 m (.expr 1) s) fun x s1=>ob (m5 m .block s1) fun b s2=>some (.mk 22 0 1 [] [] (hdp (M l o)) [x,b],s2)) (by decide) (by decide) (fun x r hl _=>?_) dB
 subst hl
 simp only [iE,decide_eq_true_eq]
 by_cases h1:mark r=[123]
 ·rw [if_pos h1,if_pos h1]
  exact bu (H.block m (by omega) r o ho) (fun t l' _=>bM rfl) uQ
 ·rw [if_neg h1,if_neg h1]
  refine bu (H.expr m (by omega) r o ho) (fun t l' _=>?_) uQ
  exact bu (H.block m (by omega) l' o ho) (fun u l' _=>bM rfl) uQ
theorem XP (n:Nat) (H:wL n):SM (n+1) fun m l o=>∀(k:Int) (x:T) (r:List T),l=x :: r->cu id (go (n+1) (.leap k) l o) o (some (.mk k 0 0 [] [] (hdp (M l o)) [],aj [59] (M l o).tl)):=by
 intro m _ l o _ k x r hl
 subst hl
 simp only [go,dI]
 rw [show (M (x :: r) o).tl=M r o from rfl]
 exact dX (F:=fun s=>some (.mk k 0 0 [] [] x.2 [],s)) (by decide) (by decide) (fun y r _ _=>bM rfl) dB
theorem KJ (n:Nat) (H:wL n):SM (n+1) fun m l o=>cu id (go (n+1) .nD l o) o (acZ m (M l o)):=by
 intro m hm l o ho
 simp only [go]
 unfold acZ
 refine dX (F:=fun s=>if bX [59] s=true then some (.mk 25 0 0 [] [] (hdp (M l o)) [],aj [59] s) else ob (m5 m (.expr 1) s) fun x s1=>some (.mk 25 0 0 [] [] (hdp (M l o)) [x],aj [59] s1)) (by decide) (by decide) (fun x r hl _=>?_) dB
 subst hl
 simp only [iE,decide_eq_true_eq]
 by_cases h1:mark r=[59]
 ·rw [if_pos h1,if_pos h1]
  cases r with
  |nil=>exact trivial
  |cons y r=>
   rw [gN y r o _ h1 (by decide) (by decide)]
   exact bM rfl
 ·rw [if_neg h1,if_neg h1]
  refine bu (H.expr m (by omega) r o ho) (fun t l' _=>?_) uQ
  exact dX (F:=fun s=>some (.mk 25 0 0 [] [] x.2 [id t],s)) (by decide) (by decide) (fun y r _ _=>bM rfl) dB
theorem Qc (n:Nat) (H:wL n):SM (n+1) fun m l o=>defines l=true->cu id (go (n+1) .define l o) o (ac0 m (M l o)):=by
 intro m hm l o ho pR
 simp only [go]
 unfold ac0
 have hk:kind l=1:=by
  rcases l with _|⟨x,_|⟨y,r⟩⟩
  ·exact absurd pR (by simp [defines])
  ·exact absurd pR (by simp [defines])
  ·simp [defines] at pR;exact pR.1.1
 unfold fu
 rw [if_pos hk]
 cases l with
 |nil=>exact trivial
 |cons x r=>
  simp only [dI]
  rw [show (M (x :: r) o).tl=M r o from rfl]
  refine dX (F:=fun s=>ob (m5 m (.expr 1) s) fun z s1=>some (.mk 18 0 0 [] x.1.t x.2 [z],aj [59] s1)) (by decide) (by decide) (fun y r2 _ _=>?_) dB
  refine bu (H.expr m (by omega) r2 o ho) (fun t l' _=>?_) uQ
  exact dX (F:=fun s=>some (.mk 18 0 0 [] x.1.t x.2 [id t],s)) (by decide) (by decide) (fun y r _ _=>bM rfl) dB
theorem Qd (n:Nat) (H:wL n):SM (n+1) fun m l o=>cu id (go (n+1) .simple l o) o (ac1 m (M l o)):=by
 intro m hm l o ho
 simp only [go]
 unfold ac1
 refine bu (H.expr m (by omega) l o ho) (fun t l' _=>?_) uQ
 simp only [iE,decide_eq_true_eq]
 by_cases h1:mark l'=[61]
 ·rw [if_pos h1,if_pos h1]
  cases l' with
  |nil=>exact trivial
  |cons x r=>
   rw [gN x r o _ h1 (by decide) (by decide)]
   refine bu (H.expr m (by omega) r o ho) (fun u l' _=>?_) uQ
   exact dX (F:=fun s=>some (.mk 19 0 0 [] [] x.2 [id t,id u],s)) (by decide) (by decide) (fun y r hl _=>bM rfl) dB
 ·rw [if_neg h1,if_neg h1]
  exact dX (F:=fun s=>some (.mk 20 0 0 [] [] (hdp (M l' o)) [id t],s)) (by decide) (by decide) (fun y r hl _=>by subst hl;exact bM rfl) dB
theorem Hr (n:Nat) (H:wL n):SM (n+1) fun m l o=>cu id (go (n+1) .dh l o) o (m5 m .dh (M l o)):=by
 intro m hm l o ho
 obtain ⟨m,rfl⟩:∃k,m=k+1:=⟨m - 1,by omega⟩
 simp only [go,m5]
 refine dX (F:=fun s=>ob (m5 m .kind (aG s)) fun t s3=>if bX [61] s3=true then ob (m5 m (.expr 1) (aj [61] s3)) fun x s4=>some (.mk 4 0 0 [] (ay s) (hdp s) [t,x],aj [59] s4) else some (.mk 4 0 0 [] (ay s) (hdp s) [t],aj [59] s3)) (by decide) (by decide) (fun x r _ _=>?_) dB
 have e:(ob (m5 m .kind (aG (M r o))) fun t s3=>if bX [61] s3=true then ob (m5 m (.expr 1) (aj [61] s3)) fun x s4=>some (Tr.mk 4 0 0 [] (ay (M r o)) (hdp (M r o)) [t,x],aj [59] s4) else some (Tr.mk 4 0 0 [] (ay (M r o)) (hdp (M r o)) [t],aj [59] s3))=ob (ob (m5 m .kind (aG (M r o))) fun t s=>some (Tr.mk 4 0 0 [] (ay (M r o)) (hdp (M r o)) [t],s)) fun nd s3=>if bX [61] s3=true then ob (m5 m (.expr 1) (aj [61] s3)) fun x s4=>some (nd.add x,aj [59] s4) else some (nd,aj [59] s3):=by
  rw [qE];rfl
 rw [e]
 refine bu (H.named m (by omega) r o ho 4) (fun t l' _=>?_) uQ
 simp only [iE,decide_eq_true_eq]
 by_cases h1:mark l'=[61]
 ·rw [if_pos h1,if_pos h1]
  cases l' with
  |nil=>exact trivial
  |cons y r=>
   rw [gN y r o _ h1 (by decide) (by decide)]
   refine bu (H.expr m (by omega) r o ho) (fun u l' _=>?_) uQ
   exact dX (F:=fun s=>some ((id t).add (id u),s)) (by decide) (by decide) (fun y r _ _=>bM (by cases t;rfl)) dB
 ·rw [if_neg h1,if_neg h1]
  exact dX (F:=fun s=>some (id t,s)) (by decide) (by decide) (fun y r _ _=>bM rfl) dB
theorem XQ (n:Nat) (H:wL n):SM (n+1) fun m l o=>∀(p:Pt),(∃c,KZ p c)->cu id (go (n+1) p.nt l o) o (Zz p m (M l o)):=by
 intro m hm l o ho p hp
 cases p with
 |expr=>exact M6 n H m hm l o ho
 |key=>
  simp only [Pt.nt,go,Zz]
  refine jK (F:=fun tx p s=>ob (m5 m (.expr 1) (aj [58] s)) fun x s1=>some (.mk 39 0 0 [] tx p [x],s1)) (fun y r _ _=>?_) dBw
  refine dX (F:=fun s=>ob (m5 m (.expr 1) s) fun x s1=>some (.mk 39 0 0 [] y.1.t y.2 [x],s1)) (by decide) (by decide) (fun x r _ _=>?_) dB
  exact bu (H.expr m (by omega) r o ho) (fun t l' _=>bM rfl) uQ
 |param=>
  simp only [Pt.nt,go,Zz]
  exact H.named m (by omega) l o ho 12
 |typeOf=>exact Gl n H m hm l o ho
 |lY=>exact absurd hp (by simp [KZ])
 |field=>exact absurd hp (by simp [KZ])
 |sig=>exact absurd hp (by simp [KZ])
theorem XR:wL 0:=by
 constructor <;> intro m hm l o ho <;> intros <;> exact trivial
theorem XT (n:Nat) (H:wL n):wL (n+1) where
 binary:=P8 n H
 Ca:=XI n H
 unary:=TY n H
 behind:=P9 n H
 lZ:=KG n H
 made:=XJ n H
 indexed:=M5 n H
 expr:=M6 n H
 call:=XK n H
 lists:=TZ n H
 elem:=XQ n H
 list:=XL n H
 within:=Qa n H
 typeName:=KH n H
 named:=T9 n H
 typeOf:=Gl n H
 head:=XM n H
 iT:=DZ n H
 iU:=D5 n H
 kR:=KI n H
 jB:=Gm n H
 first:=Ua n H
 jW:=Ho n H
 block:=Ub n H
 stats:=Uc n H
 stat:=XN n H
 branch:=Qb n H
 otherwise:=Hq n H
 loop:=XO n H
 leap:=XP n H
 nD:=KJ n H
 define:=Qc n H
 simple:=Qd n H
 dh:=Hr n H
theorem yJ:∀n,wL n
 |0=>XR
 |n+1=>XT n (yJ n)
theorem vw {N:Nat} (hN:1<=N) (nd:Tr) (s:St) (hs:s.e≠0):kI (wN N nd s) s:=by
 obtain ⟨N,rfl⟩:∃k,N=k+1:=⟨N - 1,by omega⟩
 simp only [wN,di hs,Bool.false_eq_true,if_false]
 exact jA _ _
theorem Ak {m N:Nat} (hN:1<=N) (nd:Tr) (s:St) (hs:s.e≠0):kI (qi m N nd s) s:=by
 obtain ⟨N,rfl⟩:∃k,N=k+1:=⟨N - 1,by omega⟩
 simp only [qi,gG hs,Bool.false_and,Bool.false_eq_true,if_false]
 exact jA _ _
theorem Gn (k op:Int) (p t:List UInt8) (a:Nat) (ks:List Tr) (h:Tr):wE (.mk k op 0 p t a ks) h= .mk k op h.num p t a (ks ++ h.kids):=by
 unfold wE
 split
 ·rename_i h0;rw [h0];rfl
 ·rfl
def KL (tx:List UInt8) (p:Nat) (neg:Bool) (s4:St):Option (Tr × St):=
 if (decide (s4.e=0) && !decide (kind s4.l=3))=true then some (.mk 3 0 0 [] tx p [],fE 5 s4)
 else if s4.e=0 then some (.mk 3 0 (if neg=true then - hdn s4 else hdn s4) [] tx p [],aj [59] s4.tl) else some (.mk 3 0 0 [] tx p [],s4)
theorem Qe (s:St):some (lq s)=KL (ay (aj [99,111,110,115,116] s)) (hdp (aj [99,111,110,115,116] s)) (bX [45] (aj [61] (aG (aj [99,111,110,115,116] s)))) (o9 s):=by
 unfold lq KL qh
 by_cases h1:(decide ((o9 s).e=0) && !decide (kind (o9 s).l=3))=true
 ·rw [if_pos h1]
  have h2:(o9 s).e=0:=by simp only [Bool.and_eq_true,decide_eq_true_eq] at h1;exact h1.1
  rw [if_pos h1,if_neg (show ¬(fE 5 (o9 s)).e=0 by unfold fE;rw [if_pos h2];exact (by decide:¬(5:Int)=0))]
 ·rw [if_neg h1]
  by_cases h2:(o9 s).e=0
  ·rw [if_neg h1,if_pos h2,if_pos h2]
  ·rw [if_neg h1,if_neg h2,if_neg h2]
theorem CQ (tx:List UInt8) (p:Nat) (neg:Bool) (s:St) (hs:s.e≠0):kI (KL tx p neg s) s:=by
 unfold KL
 simp only [gG hs,Bool.false_and,Bool.false_eq_true,if_false,if_neg hs]
 exact jA _ _
theorem dC {F:St->Option (Tr × St)} (h:∀s,s.e≠0->kI (F s) s:=by intro s hs;repeat (first|exact jA _ _|exact mI (by omega) _ _ hs|exact vw (by omega) _ _ hs|exact Ak (by omega) _ _ hs|(refine sK (mI (by omega) _ _ hs) hs ?_;intro t s hs)|(refine sK (vw (by omega) _ _ hs) hs ?_;intro t s hs)|(simp only [de hs,dw hs,di hs,dn hs,dns hs,dc hs,TU hs,Yp hs,Yq hs,Yr hs,df hs,kZ,hs,Bool.false_eq_true,if_false,gG hs,Bool.false_and]))):∀s,s.e≠0->kI (F s) s:=h
theorem M7 {F:Tr->St->Option (Tr × St)} (h:∀t s,s.e≠0->kI (F t s) s:=by intro t s hs;repeat (first|exact jA _ _|exact mI (by omega) _ _ hs|exact vw (by omega) _ _ hs|exact Ak (by omega) _ _ hs|(refine sK (mI (by omega) _ _ hs) hs ?_;intro t s hs)|(refine sK (vw (by omega) _ _ hs) hs ?_;intro t s hs)|(simp only [de hs,dw hs,di hs,dn hs,dns hs,dc hs,TU hs,Yp hs,Yq hs,Yr hs,df hs,kZ,hs,Bool.false_eq_true,if_false,gG hs,Bool.false_and]))):∀t s,s.e≠0->kI (F t s) s:=h
theorem ZA {F:List UInt8->Nat->St->Option (Tr × St)} (h:∀t p s,s.e≠0->kI (F t p s) s:=by intro t p s hs;repeat (first|exact jA _ _|exact mI (by omega) _ _ hs|exact vw (by omega) _ _ hs|exact Ak (by omega) _ _ hs|(refine sK (mI (by omega) _ _ hs) hs ?_;intro t s hs)|(refine sK (vw (by omega) _ _ hs) hs ?_;intro t s hs)|(simp only [de hs,dw hs,di hs,dn hs,dns hs,dc hs,TU hs,Yp hs,Yq hs,Yr hs,df hs,kZ,hs,Bool.false_eq_true,if_false,gG hs,Bool.false_and]))):∀t p s,s.e≠0->kI (F t p s) s:=h
theorem R7 (tx:List UInt8) (p:Nat) (neg:Bool) (l:List T) (o:Nat):cu id (fu 3 l fun y l=>want [59] l fun _ l=>.ok (.mk 3 0 (if neg=true then - y.1.n else y.1.n) [] tx p []) l) o (KL tx p neg (M l o)):=by
 unfold KL fu
 by_cases h3:kind l=3
 ·rw [if_pos h3,decide_eq_true h3]
  simp only [Bool.not_true,Bool.and_false,Bool.false_eq_true,if_false]
  rw [if_pos trivial]
  cases l with
  |nil=>exact trivial
  |cons y r=>
   rw [show (M (y :: r) o).tl=M r o from rfl]
   exact dX (F:=fun s=>some (.mk 3 0 (if neg=true then - y.1.n else y.1.n) [] tx p [],s)) (by decide) (by decide) (fun z r2 _ _=>bM rfl) dC
 ·rw [if_neg h3,decide_eq_false h3]
  simp only [Bool.not_false,Bool.and_true,decide_true,if_true]
  exact oQ (F:=fun s=>some (.mk 3 0 0 [] tx p [],s)) dC
theorem KM (n m:Nat) (hm:3*n+20<=m) (l:List T) (o:Nat) (ho:o<=40):cu id (go n .constant l o) o (some (lq (M l o))):=by
 rcases n with _|n
 ·exact trivial
 rw [Qe]
 unfold o9
 simp only [go]
 refine dX (F:=fun s=>KL (ay s) (hdp s) (bX [45] (aj [61] (aG s))) (if bX [45] (aj [61] (aG s))=true then aj [45] (aj [61] (aG s)) else aj [61] (aG s))) (by decide) (by decide) (fun x r _ _=>?_) (fun s hs=>by simp only [de hs,dw hs,di hs,dn hs,dns hs,dc hs,TU hs,Yp hs,Yq hs,Yr hs,df hs,kZ,hs,Bool.false_eq_true,if_false,gG hs,Bool.false_and];exact CQ _ _ _ s hs)
 refine jK (F:=fun tx p s=>KL tx p (bX [45] (aj [61] s)) (if bX [45] (aj [61] s)=true then aj [45] (aj [61] s) else aj [61] s)) (fun y r2 hl _=>?_) (fun t p s hs=>by simp only [de hs,dw hs,di hs,dn hs,dns hs,dc hs,TU hs,Yp hs,Yq hs,Yr hs,df hs,kZ,hs,Bool.false_eq_true,if_false,gG hs,Bool.false_and];exact CQ _ _ _ s hs)
 refine dX (F:=fun s=>KL y.1.t y.2 (bX [45] s) (if bX [45] s=true then aj [45] s else s)) (by decide) (by decide) (fun z r3 hl _=>?_) (fun s hs=>by simp only [de hs,dw hs,di hs,dn hs,dns hs,dc hs,TU hs,Yp hs,Yq hs,Yr hs,df hs,kZ,hs,Bool.false_eq_true,if_false,gG hs,Bool.false_and];exact CQ _ _ _ s hs)
 rw [iE]
 by_cases h1:mark r3=[45]
 ·rw [if_pos h1,decide_eq_true h1,if_pos rfl]
  cases r3 with
  |nil=>exact trivial
  |cons q r4=>
   rw [gN q r4 o _ h1 (by decide) (by decide)]
   exact R7 y.1.t y.2 true r4 o
 ·rw [if_neg h1,decide_eq_false h1,if_neg (by decide)]
  exact R7 y.1.t y.2 false r3 o
theorem Ud (n m:Nat) (hm:3*n+20<=m) (l:List T) (o:Nat) (ho:o<=40):cu id (go n .field l o) o (ob (m5 m .kind (aG (M l o))) fun t s1=>some (.mk 6 0 0 [] (ay (M l o)) (hdp (M l o)) [t],aj [59] s1)):=by
 rcases n with _|n
 ·exact trivial
 have H:=yJ n
 simp only [go]
 have e:(ob (m5 m .kind (aG (M l o))) fun t s1=>some (Tr.mk 6 0 0 [] (ay (M l o)) (hdp (M l o)) [t],aj [59] s1))=ob (ob (m5 m .kind (aG (M l o))) fun t s=>some (Tr.mk 6 0 0 [] (ay (M l o)) (hdp (M l o)) [t],s)) fun t s=>some (t,aj [59] s):=by rw [qE];rfl
 rw [e]
 refine bu (H.named m (by omega) l o ho 6) (fun t l' _=>?_) M7
 exact dX (F:=fun s=>some (id t,s)) (by decide) (by decide) (fun y r _ _=>bM rfl) dC
theorem ZB (n m:Nat) (hm:3*n+20<=m) (l:List T) (o:Nat) (ho:o<=40):cu id (go n .sig l o) o (ob (m5 m (.kinds (.mk 8 0 0 [] (ay (M l o)) (hdp (M l o)) [])) (aG (M l o))) fun k s1=>some (k,aj [59] s1)):=by
 rcases n with _|n
 ·exact trivial
 have H:=yJ n
 simp only [go]
 refine jK (F:=fun tx p s=>ob (m5 m (.kinds (.mk 8 0 0 [] tx p [])) s) fun k s1=>some (k,aj [59] s1)) (fun x r _ _=>?_) ZA
 refine bu (H.head m (by omega) r o ho .typeOf (.mk 8 0 0 [] x.1.t x.2 []) (.inl rfl)) (fun h l' _=>?_) M7
 exact dX (F:=fun s=>some (wE (.mk 8 0 0 [] x.1.t x.2 []) h,s)) (by decide) (by decide) (fun y r _ _=>bM (yI _ _ _ _ _ h)) dC
theorem yK:∀(n m:Nat),3*n+20<=m->∀(l:List T) (o:Nat),o<=40->∀(p:Pt) (nd:Tr) (acc:List Tr),((p= .field/\nd.kd≠7)\/(p= .sig/\nd.kd=7))->cu (fun ks=>nd.dY ks.kids) (go n (.parts p acc) l o) o (m5 m (.mh (nd.dY acc)) (M l o))
 |0,_,_,_,_,_,_,_,_,_=>trivial
 |n+1,m,hm,l,o,ho,p,nd,acc,hp=>by
  obtain ⟨m,rfl⟩:∃k,m=k+1:=⟨m - 1,by omega⟩
  have hkd:(nd.dY acc).kd=nd.kd:=by cases nd;rfl
  simp only [go,m5,M3,hkd]
  by_cases h1:mark l=[125]
  ·rw [if_pos h1,decide_eq_true h1]
   exact bM rfl
  rw [if_neg h1,decide_eq_false h1]
  simp only [Bool.not_false,if_true]
  rcases hp with ⟨rfl,hk⟩|⟨rfl,hk⟩
  ·rw [if_neg hk]
   have e:(ob (m5 m .kind (aG (M l o))) fun t s1=>m5 m (.mh ((nd.dY acc).add (.mk 6 0 0 [] (ay (M l o)) (hdp (M l o)) [t]))) (aj [59] s1))=ob (ob (m5 m .kind (aG (M l o))) fun t s1=>some (Tr.mk 6 0 0 [] (ay (M l o)) (hdp (M l o)) [t],aj [59] s1)) fun t s=>m5 m (.mh ((nd.dY acc).add t)) s:=by rw [qE];rfl
   rw [e]
   refine bu (Ud n m (by omega) l o ho) (fun t l' _=>?_) M7
   have:=yK n m (by omega) l' o ho .field nd (acc ++ [t]) (.inl ⟨rfl,hk⟩)
   rw [<-pM] at this
   exact this
  ·rw [if_pos hk]
   have e:(ob (m5 m (.kinds (.mk 8 0 0 [] (ay (M l o)) (hdp (M l o)) [])) (aG (M l o))) fun k s1=>m5 m (.mh ((nd.dY acc).add k)) (aj [59] s1))=ob (ob (m5 m (.kinds (.mk 8 0 0 [] (ay (M l o)) (hdp (M l o)) [])) (aG (M l o))) fun k s1=>some (k,aj [59] s1)) fun t s=>m5 m (.mh ((nd.dY acc).add t)) s:=by rw [qE];rfl
   rw [e]
   refine bu (ZB n m (by omega) l o ho) (fun t l' _=>?_) M7
   have:=yK n m (by omega) l' o ho .sig nd (acc ++ [t]) (.inr ⟨rfl,hk⟩)
   rw [<-pM] at this
   exact this
theorem Ue (n m:Nat) (hm:3*n+20<=m) (l:List T) (o:Nat) (ho:o<=40):cu id (go n .kT l o) o (m5 m .typed (M l o)):=by
 rcases n with _|n
 ·exact trivial
 obtain ⟨m,rfl⟩:∃k,m=k+1:=⟨m - 1,by omega⟩
 simp only [go,m5]
 refine dX (F:=fun s=>if bX [105,110,116,101,114,102,97,99,101] (aG s)=true then ob (m5 m (.mh (.mk 7 0 0 [] (ay s) (hdp s) [])) (aj [123] (aj [105,110,116,101,114,102,97,99,101] (aG s)))) fun nd s1=>some (nd,aj [125] s1) else ob (m5 m (.mh (.mk 5 0 0 [] (ay s) (hdp s) [])) (aj [123] (aj [115,116,114,117,99,116] (aG s)))) fun nd s1=>some (nd,aj [125] s1)) (by decide) (by decide) (fun x r hl _=>?_) dC
 refine jK (F:=fun tx p s=>if bX [105,110,116,101,114,102,97,99,101] s=true then ob (m5 m (.mh (.mk 7 0 0 [] tx p [])) (aj [123] (aj [105,110,116,101,114,102,97,99,101] s))) fun nd s1=>some (nd,aj [125] s1) else ob (m5 m (.mh (.mk 5 0 0 [] tx p [])) (aj [123] (aj [115,116,114,117,99,116] s))) fun nd s1=>some (nd,aj [125] s1)) (fun y r2 hl _=>?_) ZA
 simp only [iE,decide_eq_true_eq]
 by_cases h1:mark r2=[115,116,114,117,99,116]
 ·rw [if_pos h1,if_neg (by rw [h1];decide)]
  cases r2 with
  |nil=>exact trivial
  |cons z r3=>
   rw [gN z r3 o _ h1 (by decide) (by decide)]
   simp only [dI]
   refine kP (F:=fun s=>ob (m5 m (.mh (.mk 5 0 0 [] y.1.t y.2 [])) s) fun nd s1=>some (nd,aj [125] s1)) (by decide) ho (fun ho2 q r4 _ _=>?_) dC
   refine bu (yK n m (by omega) r4 (o+1) (by omega) .field (.mk 5 0 0 [] y.1.t y.2 []) [] (.inl ⟨rfl,by simp [Tr.kd]⟩)) (fun ks l' _=>?_) M7
   exact ja (F:=fun s=>some ((Tr.mk 5 0 0 [] y.1.t y.2 []).dY ks.kids,s)) (by decide) (by decide) (fun y r _ _=>bM rfl) dC
 rw [if_neg h1]
 by_cases h2:mark r2=[105,110,116,101,114,102,97,99,101]
 ·rw [if_pos h2,if_pos h2]
  cases r2 with
  |nil=>exact trivial
  |cons z r3=>
   rw [gN z r3 o _ h2 (by decide) (by decide)]
   simp only [dI]
   refine kP (F:=fun s=>ob (m5 m (.mh (.mk 7 0 0 [] y.1.t y.2 [])) s) fun nd s1=>some (nd,aj [125] s1)) (by decide) ho (fun ho2 q r4 _ _=>?_) dC
   refine bu (yK n m (by omega) r4 (o+1) (by omega) .sig (.mk 7 0 0 [] y.1.t y.2 []) [] (.inr ⟨rfl,by simp [Tr.kd]⟩)) (fun ks l' _=>?_) M7
   exact ja (F:=fun s=>some ((Tr.mk 7 0 0 [] y.1.t y.2 []).dY ks.kids,s)) (by decide) (by decide) (fun y r _ _=>bM rfl) dC
 rw [if_neg h2,if_neg h2]
 rw [show aj [115,116,114,117,99,116] (M r2 o)=fE 5 (M r2 o) from by unfold aj;rw [iE,decide_eq_false h1];rfl]
 exact oQ (F:=fun s=>ob (m5 m (.mh (.mk 5 0 0 [] y.1.t y.2 [])) (aj [123] s)) fun nd s1=>some (nd,aj [125] s1)) dC
theorem Dl (n m:Nat) (hm:3*n+20<=m) (l:List T) (o:Nat) (ho:o<=40):cu id (go n .lY l o) o (some (Uz (M l o),KW (M l o))):=by
 rcases n with _|n
 ·exact trivial
 have H:=yJ n
 have e:(some (Uz (M l o),KW (M l o)):Option (Tr × St))=(fun tx p s=>if bX [97,110,121] s=true then some (Tr.mk 11 0 0 [] tx p [],aj [97,110,121] s) else if bX [99,111,109,112,97,114,97,98,108,101] s=true then some (Tr.mk 11 0 1 [] tx p [],aj [99,111,109,112,97,114,97,98,108,101] s) else some (Tr.mk 11 0 2 [] tx p [gp s],gq s)) (ay (M l o)) (hdp (M l o)) (aG (M l o)):=by
  unfold Uz KW
  by_cases h1:bX [97,110,121] (aG (M l o))=true
  ·simp [h1]
  ·by_cases h2:bX [99,111,109,112,97,114,97,98,108,101] (aG (M l o))=true <;> simp [h1,h2]
 rw [e]
 simp only [go]
 refine jK (F:=fun tx p s=>if bX [97,110,121] s=true then some (Tr.mk 11 0 0 [] tx p [],aj [97,110,121] s) else if bX [99,111,109,112,97,114,97,98,108,101] s=true then some (Tr.mk 11 0 1 [] tx p [],aj [99,111,109,112,97,114,97,98,108,101] s) else some (Tr.mk 11 0 2 [] tx p [gp s],gq s)) (fun x r hl _=>?_) ZA
 simp only [iE,decide_eq_true_eq]
 by_cases h1:mark r=[97,110,121]
 ·rw [if_pos h1,if_pos h1]
  cases r with
  |nil=>exact trivial
  |cons y r=>
   rw [gN y r o _ h1 (by decide) (by decide)]
   exact bM rfl
 rw [if_neg h1,if_neg h1]
 by_cases h2:mark r=[99,111,109,112,97,114,97,98,108,101]
 ·rw [if_pos h2,if_pos h2]
  cases r with
  |nil=>exact trivial
  |cons y r=>
   rw [gN y r o _ h2 (by decide) (by decide)]
   exact bM rfl
 rw [if_neg h2,if_neg h2]
 exact bu (k:=fun t s=>some (Tr.mk 11 0 2 [] x.1.t x.2 [t],s)) (H.typeName m (by omega) r o ho) (fun t l' _=>bM rfl) M7
def tvA (m:Nat) (nd:Tr) (s:St):Option (Tr × St):=if bX [44] s=true then m5 m (.vL nd) (aj [44] s) else some (nd,s)
theorem XU (m:Nat) (nd:Tr) (l:List T) (o:Nat):m5 (m+1) (.vL nd) (M l o)=ob (some (Uz (M l o),KW (M l o))) fun t s=>tvA m (nd.add t) s:=by
 simp only [m5,kZ,tvA]
 rw [if_pos trivial]
theorem M8 (m:Nat) (nd:Tr) (s:St) (hs:s.e≠0):kI (tvA m nd s) s:=by
 unfold tvA
 rw [di hs,if_neg (by decide)]
 exact jA _ _
theorem Gp:∀(n m:Nat),3*n+20<=m->∀(l:List T) (o:Nat),o<=40->∀(nd:Tr) (acc:List Tr),cu (fun ks=>nd.dY ks.kids) (go n (.lists .lY acc) l o) o (tvA m (nd.dY acc) (M l o))
 |0,_,_,_,_,_,_,_=>trivial
 |n+1,m,hm,l,o,ho,nd,acc=>by
  obtain ⟨m,rfl⟩:∃k,m=k+1:=⟨m - 1,by omega⟩
  simp only [go,tvA,iE,decide_eq_true_eq]
  by_cases h1:mark l=[44]
  ·rw [if_pos h1,if_pos h1]
   cases l with
   |nil=>exact trivial
   |cons x r=>
    rw [gN x r o _ h1 (by decide) (by decide),XU]
    simp only [dI]
    refine bu (Dl n m (by omega) r o ho) (fun t l' _=>?_) (fun t s hs=>M8 _ _ s hs)
    have:=Gp n m (by omega) l' o ho nd (acc ++ [t])
    rw [<-pM] at this
    exact this
  ·rw [if_neg h1,if_neg h1]
   exact bM rfl
theorem Uf (n m:Nat) (hm:3*n+20<=m) (l:List T) (o:Nat) (ho:o<=40) (nd:Tr):cu (fun ks=>nd.dY ks.kids) (go n (.list .lY) l o) o (m5 m (.vL nd) (M l o)):=by
 rcases n with _|n
 ·exact trivial
 obtain ⟨m,rfl⟩:∃k,m=k+1:=⟨m - 1,by omega⟩
 rw [XU]
 simp only [go]
 refine bu (Dl n m (by omega) l o ho) (fun t l' _=>?_) (fun t s hs=>M8 _ _ s hs)
 have:=Gp n m (by omega) l' o ho nd [t]
 rw [<-R3] at this
 exact this
theorem KN (n m:Nat) (hm:3*n+20<=m) (l:List T) (o:Nat) (ho:o<=40):cu id (go n .receiver l o) o (some (Ey (M l o),tC (M l o))):=by
 rcases n with _|n
 ·exact trivial
 simp only [go]
 unfold Ey tC
 refine kP (F:=fun s=>some (Tr.mk 12 0 0 [] (ay s) (hdp s) [.mk 14 0 0 [] [] (hdp (aG s)) [.mk 13 0 0 [] (ay (aj [42] (aG s))) (hdp (aj [42] (aG s))) []]],aj [41] (aG (aj [42] (aG s))))) (by decide) ho (fun _ x r hl _=>?_) dC
 refine jK (F:=fun tx p s=>some (Tr.mk 12 0 0 [] tx p [.mk 14 0 0 [] [] (hdp s) [.mk 13 0 0 [] (ay (aj [42] s)) (hdp (aj [42] s)) []]],aj [41] (aG (aj [42] s)))) (fun y r2 hl _=>?_) ZA
 refine dX (F:=fun s=>some (Tr.mk 12 0 0 [] y.1.t y.2 [.mk 14 0 0 [] [] (hdp (M r2 (o+1))) [.mk 13 0 0 [] (ay s) (hdp s) []]],aj [41] (aG s))) (by decide) (by decide) (fun z r3 hl _=>?_) dC
 subst hl
 refine jK (F:=fun tx p s=>some (Tr.mk 12 0 0 [] y.1.t y.2 [.mk 14 0 0 [] [] z.2 [.mk 13 0 0 [] tx p []]],aj [41] s)) (fun q r4 _ _=>?_) ZA
 exact ja (F:=fun s=>some (Tr.mk 12 0 0 [] y.1.t y.2 [.mk 14 0 0 [] [] z.2 [.mk 13 0 0 [] q.1.t q.2 []]],s)) (by decide) (by decide) (fun y r _ _=>bM rfl) dC
theorem KO (n m:Nat) (hm:3*n+20<=m) (l:List T) (o:Nat) (ho:o<=40):cu id (go n .kU l o) o (m5 m .function (M l o)):=by
 rcases n with _|n
 ·exact trivial
 have H:=yJ n
 obtain ⟨m,rfl⟩:∃k,m=k+1:=⟨m - 1,by omega⟩
 simp only [go,m5]
 refine dX (F:=fun s=>if bX [40] s=true then ob (m5 m (.params (.mk 10 0 0 [] (ay (tC s)) (hdp (tC s)) [Ey s])) (aG (tC s))) fun nd s1=>ob (m5 m .block s1) fun b s2=>some (nd.add b,s2) else if bX [91] (aG s)=true then ob (m5 m (.uW (.mk 9 0 0 [] (ay s) (hdp s) [])) (aG s)) fun nd s1=>ob (m5 m (.params nd) s1) fun nd s2=>ob (m5 m .block s2) fun b s3=>some (nd.add b,s3) else ob (m5 m (.params (.mk 9 0 0 [] (ay s) (hdp s) [])) (aG s)) fun nd s2=>ob (m5 m .block s2) fun b s3=>some (nd.add b,s3)) (by decide) (by decide) (fun x r _ _=>?_) dC
 simp only [iE,decide_eq_true_eq]
 by_cases h1:mark r=[40]
 ·rw [if_pos h1,if_pos h1]
  have e:(ob (m5 m (.params (.mk 10 0 0 [] (ay (tC (M r o))) (hdp (tC (M r o))) [Ey (M r o)])) (aG (tC (M r o)))) fun nd s1=>ob (m5 m .block s1) fun b s2=>some (nd.add b,s2))=ob (some (Ey (M r o),tC (M r o))) fun t s=>ob (m5 m (.params (.mk 10 0 0 [] (ay s) (hdp s) [t])) (aG s)) fun nd s1=>ob (m5 m .block s1) fun b s2=>some (nd.add b,s2):=rfl
  rw [e]
  refine bu (KN n m (by omega) r o ho) (fun t l' _=>?_) M7
  refine jK (F:=fun tx p s=>ob (m5 m (.params (.mk 10 0 0 [] tx p [id t])) s) fun nd s1=>ob (m5 m .block s1) fun b s2=>some (nd.add b,s2)) (fun y r2 _ _=>?_) ZA
  refine bu (H.head m (by omega) r2 o ho .param (.mk 10 0 0 [] y.1.t y.2 [id t]) (.inr rfl)) (fun h l' _=>?_) M7
  refine bu (H.block m (by omega) l' o ho) (fun b l2 _=>bM ?_) M7
  rw [Gn]
  rfl
 rw [if_neg h1,if_neg h1]
 have e:(if bX [91] (aG (M r o))=true then ob (m5 m (.uW (.mk 9 0 0 [] (ay (M r o)) (hdp (M r o)) [])) (aG (M r o))) fun nd s1=>ob (m5 m (.params nd) s1) fun nd s2=>ob (m5 m .block s2) fun b s3=>some (nd.add b,s3) else ob (m5 m (.params (.mk 9 0 0 [] (ay (M r o)) (hdp (M r o)) [])) (aG (M r o))) fun nd s2=>ob (m5 m .block s2) fun b s3=>some (nd.add b,s3))=(fun tx p s=>if bX [91] s=true then ob (m5 m (.uW (.mk 9 0 0 [] tx p [])) s) fun nd s1=>ob (m5 m (.params nd) s1) fun nd s2=>ob (m5 m .block s2) fun b s3=>some (nd.add b,s3) else ob (m5 m (.params (.mk 9 0 0 [] tx p [])) s) fun nd s2=>ob (m5 m .block s2) fun b s3=>some (nd.add b,s3)) (ay (M r o)) (hdp (M r o)) (aG (M r o)):=rfl
 rw [e]
 refine jK (F:=fun tx p s=>if bX [91] s=true then ob (m5 m (.uW (.mk 9 0 0 [] tx p [])) s) fun nd s1=>ob (m5 m (.params nd) s1) fun nd s2=>ob (m5 m .block s2) fun b s3=>some (nd.add b,s3) else ob (m5 m (.params (.mk 9 0 0 [] tx p [])) s) fun nd s2=>ob (m5 m .block s2) fun b s3=>some (nd.add b,s3)) (fun y r2 _ _=>?_) ZA
 simp only [iE,decide_eq_true_eq]
 by_cases h2:mark r2=[91]
 ·rw [if_pos h2,if_pos h2]
  obtain ⟨m,rfl⟩:∃k,m=k+1:=⟨m - 1,by omega⟩
  have e2:m5 (m+1) (.uW (.mk 9 0 0 [] y.1.t y.2 [])) (M r2 o)=ob (m5 m (.vL (.mk 9 0 0 [] y.1.t y.2 [])) (aj [91] (M r2 o))) fun nd s1=>some (nd,aj [93] s1):=by simp only [m5]
  rw [e2,qE]
  simp only [kZ]
  refine kP (F:=fun s=>ob (m5 m (.vL (.mk 9 0 0 [] y.1.t y.2 [])) s) fun t s=>ob (m5 (m+1) (.params t) (aj [93] s)) fun nd s2=>ob (m5 (m+1) .block s2) fun b s3=>some (nd.add b,s3)) (by decide) ho (fun ho2 z r3 _ _=>?_) dC
  refine bu (Uf n m (by omega) r3 (o+1) (by omega) (.mk 9 0 0 [] y.1.t y.2 [])) (fun ks l' _=>?_) M7
  refine ja (F:=fun s=>ob (m5 (m+1) (.params ((Tr.mk 9 0 0 [] y.1.t y.2 []).dY ks.kids)) s) fun nd s2=>ob (m5 (m+1) .block s2) fun b s3=>some (nd.add b,s3)) (by decide) (by decide) (fun q r4 _ _=>?_) dC
  refine bu (H.head (m+1) (by omega) r4 o ho .param ((Tr.mk 9 0 0 [] y.1.t y.2 []).dY ks.kids) (.inr rfl)) (fun h l' _=>?_) M7
  refine bu (H.block (m+1) (by omega) l' o ho) (fun b l2 _=>bM ?_) M7
  simp only [Tr.dY]
  rw [Gn]
  simp [Tr.add]
 rw [if_neg h2,if_neg h2]
 refine bu (H.head m (by omega) r2 o ho .param (.mk 9 0 0 [] y.1.t y.2 []) (.inr rfl)) (fun h l' _=>?_) M7
 refine bu (H.block m (by omega) l' o ho) (fun b l2 _=>bM ?_) M7
 rw [yI]
 rfl
theorem XV (n m:Nat) (hm:3*n+20<=m) (l:List T) (o:Nat) (ho:o<=40):cu id (go n .decl l o) o (m5 m .decl (M l o)):=by
 rcases n with _|n
 ·exact trivial
 have H:=yJ n
 obtain ⟨m,rfl⟩:∃k,m=k+1:=⟨m - 1,by omega⟩
 simp only [go,m5,iE,decide_eq_true_eq]
 by_cases h:mark l=[99,111,110,115,116]
 ·rw [if_pos h,if_pos h]
  exact KM n m (by omega) l o ho
 rw [if_neg h,if_neg h]
 clear h
 by_cases h:mark l=[118,97,114]
 ·rw [if_pos h,if_pos h]
  exact H.dh m (by omega) l o ho
 rw [if_neg h,if_neg h]
 clear h
 by_cases h:mark l=[116,121,112,101]
 ·rw [if_pos h,if_pos h]
  exact Ue n m (by omega) l o ho
 rw [if_neg h,if_neg h]
 clear h
 by_cases h:mark l=[102,117,110,99]
 ·rw [if_pos h,if_pos h]
  exact KO n m (by omega) l o ho
 rw [if_neg h,if_neg h]
 exact oQ (F:=fun s=>some (eU,s)) dC
theorem Dm:∀(n N:Nat),n<=N->∀(l:List T) (o:Nat),o<=40->∀(nd:Tr) (acc:List Tr),cu (fun ks=>nd.dY ks.kids) (go n (.imports acc) l o) o (wN (N+1) (nd.dY acc) (M l o))
 |0,_,_,_,_,_,_,_=>trivial
 |n+1,N,hN,l,o,ho,nd,acc=>by
  simp only [go]
  rw [wN]
  simp only [iE,decide_eq_true_eq]
  by_cases h1:mark l=[105,109,112,111,114,116]
  ·rw [if_pos h1,if_pos h1]
   cases l with
   |nil=>exact trivial
   |cons x r=>
    obtain ⟨N,rfl⟩:∃k,N=k+1:=⟨N - 1,by omega⟩
    rw [gN x r o _ h1 (by decide) (by decide)]
    simp only [dI]
    refine jK (F:=fun tx p s=>wN (N+1) ((nd.dY acc).add (.mk 2 0 0 [] tx p [])) (aj [59] s)) (fun y r2 _ _=>?_) ZA
    refine dX (F:=fun s=>wN (N+1) ((nd.dY acc).add (.mk 2 0 0 [] y.1.t y.2 [])) s) (by decide) (by decide) (fun z r3 _ _=>?_) dC
    have:=Dm n N (by omega) r3 o ho nd (acc ++ [zm 2 y.1.t y.2 []])
    rw [<-pM] at this
    exact this
  ·rw [if_neg h1,if_neg h1]
   exact bM rfl
theorem IY:∀(n m N:Nat),n<=N->3*n+20<=m->∀(l:List T) (o:Nat),o<=40->∀(nd:Tr) (acc:List Tr),cu (fun ks=>nd.dY ks.kids) (go n (.decls acc) l o) o (qi m (N+1) (nd.dY acc) (M l o))
 |0,_,_,_,_,_,_,_,_,_=>trivial
 |n+1,m,N,hN,hm,l,o,ho,nd,acc=>by
  simp only [go,qi]
  by_cases h1:kind l=0
  ·rw [if_pos h1,decide_eq_true h1]
   simp only [Bool.not_true,Bool.and_false,Bool.false_eq_true,if_false]
   exact bM rfl
  ·rw [if_neg h1,decide_eq_false h1]
   simp only [Bool.not_false,Bool.and_true,decide_true,if_true]
   obtain ⟨N,rfl⟩:∃k,N=k+1:=⟨N - 1,by omega⟩
   refine bu (XV n m (by omega) l o ho) (fun t l' _=>?_) M7
   have:=IY n m N (by omega) (by omega) l' o ho nd (acc ++ [t])
   rw [<-pM] at this
   exact this
def R8 (N:Nat) (ts:List T):Option (Tr × St):=
 ob (wN N (.mk 1 0 0 [] (ay (aj [112,97,99,107,97,103,101] ⟨ts,0,0,0⟩)) (hdp ⟨ts,0,0,0⟩) []) (aj [59] (aG (aj [112,97,99,107,97,103,101] ⟨ts,0,0,0⟩)))) fun nd s=>qi N N nd s
theorem XW (n N:Nat) (hN:3*n+20<=N) (ts:List T):cu id (go n .file ts 0) 0 (R8 N ts):=by
 rcases n with _|n
 ·exact trivial
 obtain ⟨N,rfl⟩:∃k,N=k+1:=⟨N - 1,by omega⟩
 unfold R8
 have e0:(⟨ts,0,0,0⟩:St)=M ts 0:=rfl
 rw [e0]
 simp only [go]
 refine dX (o:=0) (F:=fun s=>ob (wN (N+1) (.mk 1 0 0 [] (ay s) (hdp (M ts 0)) []) (aj [59] (aG s))) fun nd s=>qi (N+1) (N+1) nd s) (by decide) (by decide) (fun x r hl _=>?_) dC
 subst hl
 refine jK (F:=fun tx _ s=>ob (wN (N+1) (.mk 1 0 0 [] tx x.2 []) (aj [59] s)) fun nd s=>qi (N+1) (N+1) nd s) (fun y r2 _ _=>?_) ZA
 refine dX (F:=fun s=>ob (wN (N+1) (.mk 1 0 0 [] y.1.t x.2 []) s) fun nd s=>qi (N+1) (N+1) nd s) (by decide) (by decide) (fun z r3 _ _=>?_) dC
 refine bu (Dm n N (by omega) r3 0 (by omega) (.mk 1 0 0 [] y.1.t x.2 []) []) (fun ks l' _=>?_) M7
 have h:=IY n (N+1) N (by omega) (by omega) l' 0 (by omega) (.mk 1 0 0 [] y.1.t x.2 []) ks.kids
 exact BP h (fun ks=>rfl)
theorem XZ (s:ByteArray) (w:World) (hs:s.size<=8192):Calls Tryz.prog 24 #[.string s] w (Jh (BZ s.data.toList) w):=by
 obtain ⟨i0,hi0,hz0,hz1,hz2⟩:=info_parts Er
 obtain ⟨l,hl⟩:=aS s.data.toList
 have hsz:l.length=s.size:=by rw [<-hl];simp
 rw [hl]
 unfold BZ
 obtain ⟨g,hg⟩:=aS (fF false l)
 have hgl:g<=l.length:=by rw [<-hg];exact pX _ _
 rw [hg]
 obtain ⟨R,hR⟩:=aS (qN (l.length+1) g (l.drop g))
 rw [hR]
 have KQ:=fun p (hp:p<=s.size) w=>Qg s p w (by unfold maxLen;omega) hp
 have hnext:=fun p (hp:p < s.size) w=>Um s p w hs hp
 rw [hl] at KQ hnext
 have hb0:∀w,Calls Tryz.prog 45 #[.string s,.int .i64 0] w fun e w'=>e= .returned (.int .i64 g)/\w=w':=by
  intro w
  have:=KQ 0 (Nat.zero_le _) w
  rw [List.drop_zero,Nat.zero_add,hg] at this
  exact this
 have HR:=af hR
 have HS:=af hsz
 have HB:=af KQ
 have HB0:=af hb0
 have HNX:=af hnext
 have hg':g<=s.size:=by omega
 clear hl hg hR hsz hgl KQ hb0 hnext
 go_enter Tryz.func24,Tryz.ntmps24
 go_wp2_with (go_at_call 45;refine (HB0.out _).mono ?_;rintro e w' ⟨rfl,rfl⟩)
 go_loopw [5,6] (fun v i wr=>∃(acc:List (Tk × Nat)) (k f:Nat),k<=s.size/\i= .int .i64 k/\acc.length<=k/\s.size < k+f/\wr.ownsRow w.heap.size 53 4 v acc.length (acc.flatMap NF)/\Below w.heap.size w wr/\joinL acc (qN f k (l.drop k))=R) (fun _ i _=>s.size - (intOf i).toNat)
 case atStart=>exact ⟨[],g,l.length+1,hg',rfl,Nat.zero_le _,by have:=HS.out;omega,World.ownsRow_nil _ _ _ 4,Below.refl _ _,by rw [H8];exact HR.out⟩
 case round=>
  obtain ⟨acc,k,f,hk,rfl,hak,hkf,hown,hB,hq⟩:=hrel
  obtain ⟨wo,rfl⟩:∃wo:World,wo=wr:=⟨_,rfl⟩
  have k0:(0:Int)<=(k:Int):=by omega
  obtain ⟨AO,cO,rfl⟩:=kM hown
  obtain ⟨f',rfl⟩:∃f',f=f'+1:=⟨f - 1,by omega⟩
  by_cases hlt:k < s.size
  ·have k1:(k:Int) < (s.size:Int):=by omega
   have hne:l.drop k≠[]:=by
    intro e
    have:=congrArg List.length e
    simp at this
    have:=HS.out
    omega
   have hnx:=HNX.out k hlt
   cases ho:iF (l.drop k) with
   |none=>
    rw [sO hne ho] at hq
    rw [ho] at hnx
    have HN:=af hnx
    have HQ:=af hq
    clear hnx ho hq hne
    go_wp2_with (first
     |(go_at_call 46;refine (HN.out _).mono ?_;rintro e w1 ⟨tk,tt,tn,ta,ee,rfl,hb,_⟩;have hB1:Below w.heap.size w w1:=hB.trans (hb.mono hB.size)))
    go_ret3
    rw [<-HQ.out]
    exact ⟨none,0,rfl,World.ownsRow_nil _ _ _ 4,hB1.alloc hB1.size _⟩
   |some x=>
    obtain ⟨t,n⟩:=x
    obtain ⟨n0,n1⟩:=qM ho
    have n2:n<=s.size - k:=by have:=HS.out;simp at n1;omega
    rw [sP hne ho,Ep] at hq
    rw [ho] at hnx
    obtain ⟨g2,hg2⟩:=aS (fF false ((l.drop k).drop n))
    have hgl:=pX false ((l.drop k).drop n)
    rw [hg2] at hq hgl
    have hd2:(l.drop k).drop n=l.drop (k+n):=by rw [List.drop_drop]
    have hbl:=HB.out (k+n) (by omega)
    rw [<-hd2,hg2] at hbl
    have g3:k+n+g2<=s.size:=by have:=HS.out;simp at hgl;omega
    rw [hd2] at hq
    have HN:=af hnx
    have HBL:=af hbl
    have HOWN:=af hown
    have HQ:=af hq
    clear ho hg2 hown hq hd2 hne hgl n1 hnx hbl
    go_wp2_with (first
     |(go_at_call 46;refine (HN.out _).mono ?_;rintro e w1 ⟨tk,tt,tn,ta,ee,rfl,hb,hf⟩;obtain ⟨rfl,rfl,rfl,rfl,rfl⟩:=hf t n rfl;clear hf;have Ld:=af (own_below HOWN.out hb);have hB1:Below w.heap.size w w1:=hB.trans (hb.mono hB.size))
     |(at_builtin;refine fe _ rfl (.tmp 26) (.tmp 28) _ rfl w.heap.size 53 i0 _ 4 40 Tryz.underlying34 hi0 hz0 hz1 hz2 rfl (by omega) (.slice AO acc.length cO) acc.length _ rfl ((Ld.out.alloc _).alloc _) (w1.heap.size+1+1) (some ⟨w1.heap.size+1,0,none⟩) 1 1 (NF (t,k)) rfl ⟨rfl,fun _=>⟨_,rfl,by simp,World.news_of_block (cs:=#[.int .i64 t.k,.string (bs t.t),.int .i64 t.n,.int .i64 k]) (t:=53) (fr:=(0,0)) (by simpa using heap_alloc_new (w1.alloc (.cells #[.int .i64 t.k,.string (bs t.t),.int .i64 t.n,.int .i64 k] 53)) _)⟩⟩ (AB _) (by simp only [maxLen];omega) (by omega) (by have:=hB1.size;simp;omega) ?_;intro v' w2 hown2 hg2 xw)
     |(go_at_call 45;refine (HBL.out _).mono ?_;rintro e w' ⟨rfl,rfl⟩))
    have Gu:=af hown2
    have hlv:=fun q (hq:(Value.slice AO acc.length cO).ownBlock=some q)=>(Ld.out.lt q hq).1
    have hB2:Below w.heap.size w w2:=(((hB1.alloc hB1.size _).alloc (by have:=hB1.size;simp;omega) _).grown hg2 (by have:=hB1.size;simp;omega) hlv)
    clear hown2 hg2 xw hlv
    go_roundw
    case rel=>exact ⟨acc ++ [(t,k)],k+n+g2,f',g3,by go_num,by simp;omega,by omega,by simpa using Gu.out,hB2,by rw [<-HQ.out,List.drop_drop]⟩
    case measure=>simp [intOf];omega
  ·obtain rfl:k=s.size:=by omega
   have hnil:l.drop s.size=[]:=List.drop_eq_nil_of_le (by have:=HS.out;omega)
   rw [hnil,uT] at hq
   have HQ:=af hq
   have HOWN:=af hown
   clear hq hnil hown
   go_wp2_with (at_builtin;refine fe _ rfl (.tmp 33) (.tmp 37) _ rfl w.heap.size 53 i0 _ 4 40 Tryz.underlying34 hi0 hz0 hz1 hz2 rfl (by omega) (.slice AO acc.length cO) acc.length _ rfl (HOWN.out.alloc _) (wo.heap.size+1) (some ⟨wo.heap.size,0,none⟩) 1 1 (NF (⟨0,[],0⟩,s.size)) rfl ⟨rfl,fun _=>⟨_,rfl,by simp,World.news_of_block (cs:=#[.int .i64 0,.string ⟨#[]⟩,.int .i64 0,.int .i64 s.size]) (t:=53) (fr:=(0,0)) (heap_alloc_new wo _)⟩⟩ (AB _) (by simp only [maxLen];omega) (by omega) (by have:=hB.size;simp;omega) ?_;intro v' w2 hown2 hg2 xw)
   have hlv:=fun q (hq:(Value.slice AO acc.length cO).ownBlock=some q)=>(HOWN.out.lt q hq).1
   have hB2:Below w.heap.size w w2:=((hB.alloc hB.size _).grown hg2 (by have:=hB.size;simp;omega) hlv)
   obtain ⟨A2,c2,rfl⟩:=kM hown2
   go_ret3
   rw [<-HQ.out]
   exact ⟨A2,c2,by simp [joinL,BX],by simpa [joinL,BX] using hown2,hB2⟩
theorem Nf (s:ByteArray) (w:World):Calls Tryz.prog 13 #[.string s] w (Jh (oH s.data.toList) w):=by
 have hl:s.data.toList.length=s.size:=by simp
 unfold oH
 rw [hl]
 by_cases hs:8192 < s.size
 ·rw [if_pos hs]
  have hs':8192 < (s.size:Int):=by omega
  clear hl
  go_enter Tryz.func13,Tryz.ntmps13
  go_wp2
  go_ret3
  exact ⟨none,0,rfl,World.ownsRow_nil _ _ _ 4,Below.refl _ _⟩
 ·rw [if_neg hs]
  have hlong:=XZ s w (by omega)
  obtain ⟨x,hx⟩:=aS (BZ s.data.toList)
  rw [hx] at hlong |-
  have HL:=af hlong
  clear hl hlong hx
  go_enter Tryz.func13,Tryz.ntmps13
  go_wp2_with (go_at_call 24;refine HL.out.mono ?_;rintro e w1 ⟨A,c,rfl,ho,hb⟩)
  go_ret3
  exact ⟨A,c,rfl,ho,hb⟩
theorem ZG (n:Nat) (ts:List T):M0 n ts=R8 n ts:=by
 unfold M0 R8
 cases wN n (.mk 1 0 0 [] (ay (aj [112,97,99,107,97,103,101] ⟨ts,0,0,0⟩)) (hdp ⟨ts,0,0,0⟩) []) (aj [59] (aG (aj [112,97,99,107,97,103,101] ⟨ts,0,0,0⟩))) <;> rfl
def zF:PR->Tr × Nat × Int
 | .tree t=>(t,0,0)
 | .fault a e=>(eU,a,e)
theorem agt {ts:List T} {P:Nat} (h:gd P ts):∃t s,M0 (3*(10*ts.length+1)+20) ts=some (t,s)/\Yo t s=zF (qD ts):=by
 have h1:=XW (10*ts.length+1) (3*(10*ts.length+1)+20) (Nat.le_refl _) ts
 have h2:=(IW h).out
 rw [ZG]
 unfold qD
 cases hg:go (10*ts.length+1) .file ts 0 with
 |out=>exact absurd hg h2
 |bad a e=>
  rw [hg] at h1
  obtain ⟨he,t,s,h3,h4,h5⟩:=h1
  refine ⟨t,s,h3,?_⟩
  unfold Yo
  rw [if_neg (by rw [h4];exact he),h4,h5]
  rfl
 |ok t l=>
  rw [hg] at h1
  refine ⟨t,M l 0,h1,?_⟩
  unfold Yo
  rw [if_pos rfl]
  show _=zF (if 3000 < t.nodes then .fault 0 2 else if 100 < t.deep then .fault 0 3 else .tree t)
  split
  ·rfl
  ·split <;> rfl
theorem Un (s:ByteArray) (ts:List (Tk × Nat)) (w:World) (hne:ts≠[]) (h:oH s.data.toList=(ts,0,0)):
  Calls Tryz.prog 13 #[.string s] w fun e w'=>∃g c,e= .returned (.tuple #[.slice (some ⟨g,0,none⟩) ts.length c,.int .i64 0,.int .i64 0])/\Below w.heap.size w w'/\ts.length<=c/\AL w' g ts:=by
 have:=Nf s w
 rw [h] at this
 refine this.mono ?_
 rintro e w1 ⟨A,c,rfl,hown,hB⟩
 obtain ⟨g,rfl,hgc,_,hgs,_,hcl⟩:=Ib hown (List.length_pos_iff.2 hne)
 refine ⟨g,c,rfl,hB,hgc,hgs,fun j x hx=>⟨hcl _ _ ?_,hcl _ _ ?_,hcl _ _ ?_,hcl _ _ ?_⟩⟩
 ·exact AJ ts j 0 x hx (by omega)
 ·exact AJ ts j 1 x hx (by omega)
 ·exact AJ ts j 2 x hx (by omega)
 ·exact AJ ts j 3 x hx (by omega)
theorem Qm (s:ByteArray) (p:Nat) (k:Int) (w:World) (h:oH s.data.toList=([],p,k)):
  Calls Tryz.prog 13 #[.string s] w fun e w'=>∃A c,e= .returned (.tuple #[.slice A 0 c,.int .i64 p,.int .i64 k])/\Below w.heap.size w w':=by
 have:=Nf s w
 rw [h] at this
 exact this.mono fun e w' ⟨A,c,he,_,hb⟩=>⟨A,c,he,hb⟩
def yM (w:World) (p:PR) (e:Ending) (w':World):Prop:=
 Below w.heap.size w w'/\∃vs,nW w' (Fp w.heap.size) (zF p).1 vs/\e= .returned (.tuple #[.agg vs.toArray,.int .i64 (zF p).2.1,.int .i64 (zF p).2.2])
theorem Gq (tmps:Array Value) (w:World) (b2:Nat) (x0 x1 x2 x3 x4 x5 x6 v3 v4:Value) (t2:tmps.getD 2 undef= .pointer (some ⟨b2,0,none⟩)) (t3:tmps.getD 3 undef=v3) (t4:tmps.getD 4 undef=v4) (h2:ag w b2 24 #[x0,x1,x2,x3,x4,x5,x6]):
  (results Tryz.f5 tmps).run Tryz.prog w= .ok (.tuple #[.agg #[x0,x1,x2,x3,x4,x5,x6],v3,v4]) w:=by
 have q0:=h2.cell 0
 have q1:=h2.cell 1
 have q2:=h2.cell 2
 have q3:=h2.cell 3
 have q4:=h2.cell 4
 have q5:=h2.cell 5
 have q6:=h2.cell 6
 rw [Array.getD_eq_getD_getElem?] at t2 t3 t4
 simp [results,Tryz.results5,t2,t3,t4,go_sem,q0,q1,q2,q3,q4,q5,q6]
theorem Qn (s:ByteArray) (p:Nat) (k:Int) (w:World) (h:oH s.data.toList=([],p,k)) (hk:k=2\/k=5):
  Calls Tryz.prog 5 #[.string s] w (yM w (.fault p k)):=by
 have HH:=af h
 have hne:(k != 0)=true:=by rcases hk with rfl|rfl <;> rfl
 clear h hk
 go_enter Tryz.func5,Tryz.ntmps5
 go_wp2_with (go_at_call 13;refine (Qm _ p k _ HH.out).mono ?_;rintro e w1 ⟨A,c,rfl,hb1⟩;have az:ag w1 w.heap.size 24 Z7:=ag.aC bz hb1;have hB2:Below w.heap.size w w1:=((Below.refl _ w).alloc (Nat.le_refl _) _).trans (hb1.mono (by simp));obtain ⟨_,lJ,lK,lM,lN,lQ,lS,lT,lU⟩:=az.av)
 exact bodyPost_ret (Gq _ _ w.heap.size _ _ _ _ _ _ _ _ _ rfl rfl rfl (az.seven _ _ _ _ _ _ _)) rfl ⟨((((((hB2.setCell (by simp) _).setCell (by simp) _).setCell (by simp) _).setCell (by simp) _).setCell (by simp) _).setCell (by simp) _).setCell (by simp) _,_,AX _ _,rfl⟩
theorem Uo (s:ByteArray) (ts:List T) (P:Nat) (w:World) (h:oH s.data.toList=(ts,0,0)) (hP:gd P ts):
  Calls Tryz.prog 5 #[.string s] w (yM w (qD ts)):=by
 obtain ⟨hgood,Sa,hlen⟩:=yL h
 have hne:ts≠[]:=by rintro rfl;exact hgood
 obtain ⟨t,st,hf,hr⟩:=agt hP
 have HH:=af h
 have HF:=af (fun w' g c ht=>acY (3*(10*ts.length+1)+20) (by unfold cK;omega) w' g ts c t st ht hgood hlen Sa hf)
 unfold yM
 rw [<-hr]
 clear h hf hr hgood Sa
 go_enter Tryz.func5,Tryz.ntmps5
 go_wp2_with (first
  |(go_at_call 13;refine (Un _ ts _ hne HH.out).mono ?_;rintro e w1 ⟨g,c,rfl,hb1,_,htk⟩;have hs1:w.heap.size+1<=w1.heap.size:=(by have:=hb1.size;simpa using this);have az:ag w1 w.heap.size 24 Z7:=ag.aC bz hb1;have hB1:Below w.heap.size w w1:=((Below.refl _ w).alloc (Nat.le_refl _) _).trans (hb1.mono (by simp)))
  |(go_at_call 14;refine (HF.out _ g c htk).mono ?_;rintro e w2 ⟨hb2,kk,kop,kn,kp,kt,ka,kks,kA,kc,htr,rfl,rq⟩;have ax:ag w2 w.heap.size 24 Z7:=ag.aC az hb2;obtain ⟨_,lJ,lK,lM,lN,lQ,lS,lT,lU⟩:=ax.av;have hB2:Below w.heap.size w w2:=hB1.trans (hb2.mono hB1.size)))
 have hrep:=aI.rep rq kk kop kn kp kt ka
 rw [<-htr] at hrep
 refine bodyPost_ret (Gq _ _ w.heap.size _ _ _ _ _ _ _ _ _ rfl rfl rfl (ax.seven _ _ _ _ _ _ _)) rfl ⟨?_,_,?_,rfl⟩
 ·exact ((((((hB2.setCell (by simp) _).setCell (by simp) _).setCell (by simp) _).setCell (by simp) _).setCell (by simp) _).setCell (by simp) _).setCell (by simp) _
 ·exact hrep.gr (fQ (S:=(·=w.heap.size)) (g:=w.heap.size) (i:=0) (Gr.refl w2) (.inr rfl)) (fun q h1 _ h3=>by have h1:w1.heap.size<=q:=h1;have:q=w.heap.size:=h3;omega) (fun q _ h=>by have h:w1.heap.size<=q:=h;show w.heap.size<=q;omega)
theorem Qo (s:ByteArray) (w:World):Calls Tryz.prog 5 #[.string s] w (yM w (nQ s.data.toList)):=by
 rcases Et s.data.toList with ⟨ts,h⟩|⟨p,k,h,_,hk⟩
 ·have e:nQ s.data.toList=qD ts:=by unfold nQ;rw [h];rfl
  rw [e]
  exact Uo s ts _ w h ⟨(yL h).1,CY h⟩
 ·have e:nQ s.data.toList= .fault p k:=by unfold nQ;rw [h];rcases hk with rfl|rfl <;> rfl
  rw [e]
  exact Qn s p k w h hk
theorem Nj:∀(N:Nat) (t:Tr),t.nodes<=N->N<=20000->∀(M:Int) (w:World) (F:Nat->Prop) (vs:List Value),nW w F t vs->(t.nodes:Int)<=M->M<=20000->
  Calls Tryz.prog 15 #[.agg vs.toArray,.int .i64 M] w fun e w'=>e= .returned (.tuple #[.int .i64 t.nodes,.int .i64 t.deep])/\Below w.heap.size w w'
 |0,t,ht,_,_,_,_,_,_,_,_=>by have:=oF t;omega
 |N+1,.mk k op m p tx a ks,ht,hN,M,w,F,vs,hr,hM,hM2=>by
  have ih:=Nj N
  obtain ⟨A,c,rfl,zD⟩:=hr.Gg
  rw [nJ] at ht hM
  have hnt:(Tr.mk k op m p tx a ks).nodes=cZ ks+1:=nJ ..
  have hdt:(Tr.mk k op m p tx a ks).deep=nI ks+1:=by simp only [Tr.deep]
  rw [hnt,hdt]
  have hdl:=yj ks
  have hln:=yG ks
  have HK:=af zD
  clear hnt hdt hr zD
  show Calls Tryz.prog 15 #[.agg #[.int .i64 k,.int .i64 op,.int .i64 m,.string (bs p),.string (bs tx),.int .i64 a,.slice A ks.length c],.int .i64 M] w _
  go_enter Tryz.func15,Tryz.ntmps15
  go_wp2
  go_loopg [6,7,8] ks.length (fun gk v6 v7 v8 wr=>∃j:Nat,j+gk=ks.length/\v8= .int .i64 j/\v6= .int .i64 ((cZ (ks.take j):Int)+1)/\v7= .int .i64 (nI (ks.take j))/\Below w.heap.size w wr/\ag wr w.heap.size 24 (N7 k op m (bs p) (bs tx) a (.slice A ks.length c)))
  case atStart=>exact ⟨0,by simp,rfl,by simp [cZ],by simp [nI],(Below.refl _ _).alloc (Nat.le_refl _) _,ag.new _ _ _⟩
  case round=>
   obtain ⟨j,hj,rfl,rfl,rfl,hb,hbx⟩:=hrel
   have bx:=hbx.cell 6
   cases gk with
   |zero=>
    obtain rfl:j=ks.length:=by omega
    rw [List.take_length]
    have n1:(cZ ks:Int)<=20000:=by omega
    have d1:(nI ks:Int)<=20000:=by omega
    clear hj
    go_wp2
    go_ret2
    exact ⟨rfl,hb⟩
   |succ f=>
    have hjl:j < ks.length:=by omega
    obtain ⟨u,hu⟩:=aS (ks[j])
    have rq:ks[j]? =some u:=by rw [<-hu];exact List.getElem?_eq_getElem hjl
    obtain ⟨g,vs,rfl,_,hgl,hrep,hat⟩:=HK.out j u rq
    have hnk:=yH ks j u rq
    have HN1:=af (uC ks j u rq)
    have HD1:=af (Ai ks j u rq)
    have ano:=KA u
    have anp:=yj (ks.take j)
    have HI:=af (show ∀w',Below w.heap.size w w'->_ from fun w' hb'=>ih u (by omega) (by omega) (M - ((cZ (ks.take j):Int)+1)) w' F vs (hrep.aC hb') (by omega) (by omega))
    obtain ⟨k',op',m',p',t',a',n',c',A',rfl⟩:=hrep.shape
    have q0:=(hb.cell (p:=⟨g,j*7,none⟩) hgl).trans (hat 0 _ rfl)
    have q1:=(hb.cell (p:=⟨g,j*7+1,none⟩) hgl).trans (hat 1 _ rfl)
    have q2:=(hb.cell (p:=⟨g,j*7+2,none⟩) hgl).trans (hat 2 _ rfl)
    have q3:=(hb.cell (p:=⟨g,j*7+3,none⟩) hgl).trans (hat 3 _ rfl)
    have q4:=(hb.cell (p:=⟨g,j*7+4,none⟩) hgl).trans (hat 4 _ rfl)
    have q5:=(hb.cell (p:=⟨g,j*7+5,none⟩) hgl).trans (hat 5 _ rfl)
    have q6:=(hb.cell (p:=⟨g,j*7+6,none⟩) hgl).trans (hat 6 _ rfl)
    have j0:(0:Int)<=(j:Int):=by omega
    have j1:(j:Int) < (ks.length:Int):=by omega
    have j2:(j:Int)<=20000:=by omega
    have n1:(cZ (ks.take j):Int)<=20000:=by omega
    have n3:(u.nodes:Int)<=20000:=by omega
    have hle:(cZ (ks.take j):Int)+1<=M:=by omega
    clear hu rq hat hrep ih
    go_wp2_with (go_at_call 15;refine (HI.out _ hb).mono ?_;rintro e w5 ⟨rfl,hb5⟩)
    have Eb:Below w.heap.size w w5:=hb.trans (hb5.mono hb.size)
    have acX:=hbx.below hb5 hbx.lt
    go_roundg f
    case measure=>omega
    case rel=>exact ⟨j+1,by omega,by go_num,by rw [HN1.out];exact congrArg (Value.int .i64) (by omega),by rw [HD1.out];exact congrArg (Value.int .i64) (by omega),Eb,acX⟩
theorem Nk (n:Int) (w:World):Calls Tryz.prog 6 #[.int .i64 n] w fun e w'=>e= .returned (.int .i64 n)/\w=w':=by
 go_enter Tryz.func6,Tryz.ntmps6
 go_wp2
 go_ret
 exact ⟨rfl,rfl⟩
theorem Qy (s:ByteArray) (w:World) (ht:qF w) (k op n:Int) (p tx:List UInt8) (a:Nat) (ks:List Tr) (h:nQ s.data.toList= .tree (.mk k op n p tx a ks)):
  Calls Tryz.prog 4 #[.string s] w fun e w'=>∃A c,e= .returned (.tuple #[.agg #[.int .i64 k,.int .i64 op,.int .i64 n,.string (bs p),.string (bs tx),.int .i64 a,.slice A ks.length c],.int .i64 0,.int .i64 0])/\Below w.heap.size w w'/\
   nW w' (Fp w.heap.size) (.mk k op n p tx a ks) (GG k op n p tx a (.slice A ks.length c)):=by
 have:=I4 s w ht
 rw [h] at this
 refine this.mono ?_
 rintro e w' ⟨hb,⟨t,vs,h1,hr,rfl⟩|⟨a',k',h1,rfl⟩⟩
 ·injection h1 with h1
  subst h1
  obtain ⟨A,c,rfl,_⟩:=hr.Gg
  exact ⟨A,c,rfl,hb,hr⟩
 ·cases h1
theorem X9 (w:World) (ht:qF w):Calls Tryz.prog 4 #[.string ⟨#[112,97,99,107,97,103,101,32,97,59,32,102,117,110,99,32,102,40,120,32,105,110,116,41,32,105,110,116,32,123,32,114,101,116,117,114,110,32,120,32,43,32,49,59,32,125]⟩] w fun e w'=>
  ∃(t:Tr) (k op n:Int) (p tx:List UInt8) (a m c g:Nat),
   e= .returned (.tuple #[.agg #[.int .i64 k,.int .i64 op,.int .i64 n,.string (bs p),.string (bs tx),.int .i64 a,.slice (some ⟨g,0,none⟩) (m+1) c],.int .i64 0,.int .i64 0])/\Below w.heap.size w w'/\t.nodes=10/\
   nW w' (Fp w.heap.size) t (GG k op n p tx a (.slice (some ⟨g,0,none⟩) (m+1) c))/\g < w'.heap.size/\w'.cell? ⟨g,2,none⟩=some (.int .i64 1)/\w'.cell? ⟨g,4,none⟩=some (.string ⟨#[102]⟩):=by
 obtain ⟨t,ht1,hn,k0,op0,p0,a0,dx,r0,hk⟩:=ZH
 obtain ⟨k,op,n,p,tx,a,ks⟩:=t
 simp only [Tr.kids] at hk
 subst hk
 refine (Qy _ w ht k op n p tx a _ ht1).mono ?_
 rintro e w' ⟨A,c,rfl,hb,hr⟩
 obtain ⟨A',c',e1,zD⟩:=hr.Gg
 simp only [GG,List.cons.injEq,Value.slice.injEq,and_true,true_and] at e1
 obtain ⟨rfl,rfl⟩:=e1
 obtain ⟨g,us,rfl,_,hg,hru,hcell⟩:=zD 0 _ rfl
 obtain ⟨A2,c2,rfl,_⟩:=hru.Gg
 exact ⟨_,k,op,n,p,tx,a,r0.length,c,g,rfl,hb,hn,hr,hg,hcell 2 _ rfl,hcell 4 _ rfl⟩
theorem Qz (w:World) (ht:qF w):Calls Tryz.prog 8 #[] w fun e w'=>e= .returned (.bool true)/\Below w.heap.size w w':=by
 have HT:=af ht
 clear ht
 go_enter Tryz.func8,Tryz.ntmps8
 go_wp2_with (first
  |(go_at_call 4;refine (X9 _ HT.out).mono ?_;rintro e w1 ⟨t,k,op,n,p,tx,a,m,c,g,rfl,hb1,hn,hr,hg,q2,q4⟩;have HR:=af hr;have HN:=af hn;clear hr hn)
  |(go_at_call 15;refine (Nj 20000 t (by have:=HN.out;omega) (Nat.le_refl _) 100 _ _ _ (HR.out.aC ((Below.refl _ _).alloc (Nat.le_refl _) _)) (by have:=HN.out;omega) (by omega)).mono ?_;rw [HN.out];rintro e w2 ⟨rfl,hb2⟩;have hbx:=(ag.new w1 24 #[.int .i64 k,.int .i64 op,.int .i64 n,.string (bs p),.string (bs tx),.int .i64 a,.slice (some ⟨g,0,none⟩) (m+1) c]).aC hb2;have x6:=hbx.cell 6;have y2:=(hb2.cell (p:=⟨g,2,none⟩) (by simp;omega)).trans ((World.cell?_alloc_lt w1 _ ⟨g,2,none⟩ hg).trans q2);have y4:=(hb2.cell (p:=⟨g,4,none⟩) (by simp;omega)).trans ((World.cell?_alloc_lt w1 _ ⟨g,4,none⟩ hg).trans q4);have m0:(0:Int) < (m:Int)+1:=(by omega))
  |(go_at_call 6;refine (Nk _ _).mono ?_;rintro e w' ⟨rfl,rfl⟩))
 go_ret
 exact ⟨rfl,((hb1.alloc hb1.size _).trans (hb2.mono (by have:=hb1.size;simp;omega)))⟩
theorem Nl:∀(N:Nat) (t:Tr),t.nodes<=N->N<=20000->∀(w:World) (F F':Nat->Prop) (vs us:List Value),nW w F t vs->nW w F' t us->
  Calls Tryz.prog 7 #[.agg vs.toArray,.agg us.toArray] w fun e w'=>e= .returned (.bool true)/\Below w.heap.size w w'
 |0,t,ht,_,_,_,_,_,_,_,_=>by have:=oF t;omega
 |N+1,.mk k op m p tx a ks,ht,hN,w,F,F',vs,us,hr,hr'=>by
  have ih:=Nl N
  obtain ⟨A,c,rfl,zD⟩:=hr.Gg
  obtain ⟨A',c',rfl,Ya⟩:=hr'.Gg
  rw [nJ] at ht
  have hln:=yG ks
  have HK:=af zD
  have HK':=af Ya
  clear hr zD hr' Ya
  show Calls Tryz.prog 7 #[.agg #[.int .i64 k,.int .i64 op,.int .i64 m,.string (bs p),.string (bs tx),.int .i64 a,.slice A ks.length c],.agg #[.int .i64 k,.int .i64 op,.int .i64 m,.string (bs p),.string (bs tx),.int .i64 a,.slice A' ks.length c']] w _
  go_enter Tryz.func7,Tryz.ntmps7
  go_wp2
  go_loopg [5] ks.length (fun gk v5 wr=>∃j:Nat,j+gk=ks.length/\v5= .int .i64 j/\Below w.heap.size w wr/\ag wr w.heap.size 24 (N7 k op m (bs p) (bs tx) a (.slice A ks.length c))/\ag wr (w.heap.size+1) 24 (N7 k op m (bs p) (bs tx) a (.slice A' ks.length c')))
  case atStart=>exact ⟨0,by simp,rfl,((Below.refl _ _).alloc (Nat.le_refl _) _).alloc (by simp) _,(ag.new _ _ _).alloc _,ag.U2 (by simp)⟩
  case round=>
   obtain ⟨j,hj,rfl,hb,hbx,hby⟩:=hrel
   have bx:=hbx.cell 6
   have cx:=hby.cell 6
   cases gk with
   |zero=>
    obtain rfl:j=ks.length:=by omega
    clear hj
    go_wp2
    go_ret
    exact ⟨rfl,hb⟩
   |succ f=>
    have hjl:j < ks.length:=by omega
    obtain ⟨u,hu⟩:=aS (ks[j])
    have rq:ks[j]? =some u:=by rw [<-hu];exact List.getElem?_eq_getElem hjl
    obtain ⟨g,vs,rfl,_,hgl,hrep,hat⟩:=HK.out j u rq
    obtain ⟨g',us,rfl,_,QA,Yb,hat'⟩:=HK'.out j u rq
    have hnk:=yH ks j u rq
    have HI:=af (show ∀w',Below w.heap.size w w'->_ from fun w' hb'=>ih u (by omega) (by omega) w' F F' vs us (hrep.aC hb') (Yb.aC hb'))
    obtain ⟨k1,Ap,m1,p1,t1,a1,n1,c1,A1,rfl⟩:=hrep.shape
    obtain ⟨k2,kJ,m2,p2,t2,a2,n2,c2,A2,rfl⟩:=Yb.shape
    have q0:=hat 0 _ rfl
    have q1:=hat 1 _ rfl
    have q2:=hat 2 _ rfl
    have q3:=hat 3 _ rfl
    have q4:=hat 4 _ rfl
    have q5:=hat 5 _ rfl
    have q6:=hat 6 _ rfl
    have r0:=hat' 0 _ rfl
    have r1:=hat' 1 _ rfl
    have r2:=hat' 2 _ rfl
    have r3:=hat' 3 _ rfl
    have r4:=hat' 4 _ rfl
    have r5:=hat' 5 _ rfl
    have r6:=hat' 6 _ rfl
    have j0:(0:Int)<=(j:Int):=by omega
    have j1:(j:Int) < (ks.length:Int):=by omega
    have j2:(j:Int)<=20000:=by omega
    clear hu rq hat hat' hrep Yb ih
    simp only [Nat.add_zero] at q0 r0
    go_wp2
    refine wp_region_held_drew (S:=fun W=>Below w.heap.size w W/\ag W w.heap.size 24 (N7 k op m (bs p) (bs tx) a (.slice (some ⟨g,0,none⟩) ks.length c))/\ag W (w.heap.size+1) 24 (N7 k op m (bs p) (bs tx) a (.slice (some ⟨g',0,none⟩) ks.length c'))) (by kernel_rfl) ⟨hb.drew,hbx.drew,hby.drew⟩ (fun hS0=>?_)
    refine aQ 0 hS0 ?_
    refine jS 1 hS0 ?_ (fun w' hS=>hS.2.1.cell 6)
    refine Jl 2 (.int .i64 j) hS0 ?_
    simp only [Act.put,gA,gB,gC,gD,gE,gF]
    refine aQ 3 hS0 ?_
    refine oU 4 hS0 ?_ (he:=fun w' hS=>by (have y0:=(hS.1.cell (p:=⟨g,_,none⟩) hgl).trans q0;have y1:=(hS.1.cell (p:=⟨g,_,none⟩) hgl).trans q1;have y2:=(hS.1.cell (p:=⟨g,_,none⟩) hgl).trans q2;have y3:=(hS.1.cell (p:=⟨g,_,none⟩) hgl).trans q3;have y4:=(hS.1.cell (p:=⟨g,_,none⟩) hgl).trans q4;have y5:=(hS.1.cell (p:=⟨g,_,none⟩) hgl).trans q5;have y6:=(hS.1.cell (p:=⟨g,_,none⟩) hgl).trans q6;unfold execOp;go_simp;first|done|exact rfl))
    refine aQ 5 hS0 ?_
    refine jS 6 hS0 ?_ (fun w' hS=>hS.2.2.cell 6)
    refine Jl 7 (.int .i64 j) hS0 ?_
    simp only [Act.put,gA,gB,gC,gD,gE,gF]
    refine aQ 8 hS0 ?_
    refine oU 9 hS0 ?_ (he:=fun w' hS=>by (have y0:=(hS.1.cell (p:=⟨g',_,none⟩) QA).trans r0;have y1:=(hS.1.cell (p:=⟨g',_,none⟩) QA).trans r1;have y2:=(hS.1.cell (p:=⟨g',_,none⟩) QA).trans r2;have y3:=(hS.1.cell (p:=⟨g',_,none⟩) QA).trans r3;have y4:=(hS.1.cell (p:=⟨g',_,none⟩) QA).trans r4;have y5:=(hS.1.cell (p:=⟨g',_,none⟩) QA).trans r5;have y6:=(hS.1.cell (p:=⟨g',_,none⟩) QA).trans r6;unfold execOp;go_simp;first|done|exact rfl))
    refine oI 10 rfl (fP (args:=#[.agg #[.int .i64 k1,.int .i64 Ap,.int .i64 m1,.string (bs p1),.string (bs t1),.int .i64 a1,.slice A1 n1 c1],.agg #[.int .i64 k2,.int .i64 kJ,.int .i64 m2,.string (bs p2),.string (bs t2),.int .i64 a2,.slice A2 n2 c2]]) (f:=7) (by unfold execOp;go_simp) ((HI.out _ hS0.1).mono ?_))
    rintro e w5 ⟨rfl,hb5⟩
    have Eb:=hS0.1.trans (hb5.mono hS0.1.size)
    have hX5:=hS0.2.1.aC hb5
    have hY5:=hS0.2.2.aC hb5
    refine And.intro ⟨Eb,hX5,hY5⟩ ?_
    simp only [Act.put,gA,gB,gC,gD,gE,gF]
    refine oI 11 rfl (aY (v:=.bool false) (by unfold execOp;go_simp) (And.intro ⟨Eb,hX5,hY5⟩ ?_))
    simp only [Act.put,gA,gB,gC,gD,gE,gF]
    refine eZ ?_
    clear hS0
    go_wp2
    go_roundg f
    case measure=>omega
    case rel=>exact ⟨j+1,by omega,by go_num,Eb,hX5,hY5⟩
theorem QB (s:ByteArray) (w:World) (ht:qF w):Calls Tryz.prog 4 #[.string s] w (yM w (nQ s.data.toList)):=by
 refine (I4 s w ht).mono ?_
 rintro e w' ⟨hb,⟨t,vs,hp,hr,rfl⟩|⟨a,k,hp,rfl⟩⟩
 ·rw [hp]
  exact ⟨hb,vs,hr,rfl⟩
 ·rw [hp]
  exact ⟨hb,_,AX _ _,rfl⟩
theorem QC (l:List UInt8):(zF (nQ l)).1.nodes<=3000:=by
 have hT:∀ts,(zF (qD ts)).1.nodes<=3000:=fun ts=>by
  unfold qD
  cases go (10*ts.length+1) .file ts 0 with
  |out=>exact (by decide:eU.nodes<=3000)
  |bad a e=>exact (by decide:eU.nodes<=3000)
  |ok t l=>
   show (zF (if 3000 < t.nodes then .fault 0 2 else if 100 < t.deep then .fault 0 3 else .tree t)).1.nodes<=3000
   split
   ·exact (by decide:eU.nodes<=3000)
   ·split
    ·exact (by decide:eU.nodes<=3000)
    ·show t.nodes<=3000
     omega
 unfold nQ
 split
 ·exact hT _
 ·exact (by decide:eU.nodes<=3000)
abbrev agB (w:World) (tr:Tr) (pa:Nat) (pk:Int) (e:Ending) (w':World):Prop:=
 ∃(k op m:Int) (p t:List UInt8) (a n c:Nat) (A:Option Addr),Below w.heap.size w w'/\nW w' (Fp w.heap.size) tr (GG k op m p t a (.slice A n c))/\e= .returned (.tuple #[.agg #[.int .i64 k,.int .i64 op,.int .i64 m,.string (bs p),.string (bs t),.int .i64 a,.slice A n c],.int .i64 pa,.int .i64 pk])
theorem abr {w w':World} {p:PR} {e:Ending} {tr:Tr} {pa:Nat} {pk:Int} (h:yM w p e w') (hz:zF p=(tr,pa,pk)):agB w tr pa pk e w':=by
 obtain ⟨hb,vs,hr,rfl⟩:=h
 rw [hz] at hr |-
 obtain ⟨k,op,m,p,t,a,n,c,A,rfl⟩:=hr.shape
 exact ⟨k,op,m,p,t,a,n,c,A,hb,hr,rfl⟩
theorem Uw (w:World) (ht:qF w) (s:ByteArray):Calls Tryz.prog 3 #[.string s] w fun e w'=>e= .returned (.bool true)/\Below w.heap.size w w':=by
 have HT:=af ht
 have hn:=QC s.data.toList
 obtain ⟨⟨tr,pa,pk⟩,hz⟩:∃z,zF (nQ s.data.toList)=z:=⟨_,rfl⟩
 have HP:=af (fun w h=>(QB s w h).mono fun e w' hp=>abr hp hz)
 have HQ:=af (fun w=>(Qo s w).mono fun e w' hp=>abr hp hz)
 rw [hz] at hn
 have HN:=af (show tr.nodes<=20000 from by have:tr.nodes<=3000:=hn;omega)
 clear ht hn hz
 go_enter Tryz.func3,Tryz.ntmps3
 go_wp2_with (first
  |(go_at_call 4;refine (HP.out _ HT.out).mono ?_;rintro e w1 ⟨k1,Ap,m1,p1,t1,a1,n1,c1,A1,hb1,hr1,rfl⟩;have HR1:=af hr1;clear hr1;have HT1:=af (HT.out.below hb1))
  |(go_at_call 5;refine (HQ.out _).mono ?_;rintro e w2 ⟨k2,kJ,m2,p2,t2,a2,n2,c2,A2,hb2,hr2,rfl⟩;have HR2:=af hr2;clear hr2;have HT2:=af ((HT1.out.alloc _).below hb2);have hbx:=(ag.new w1 24 #[.int .i64 k1,.int .i64 Ap,.int .i64 m1,.string (bs p1),.string (bs t1),.int .i64 a1,.slice A1 n1 c1]).aC hb2;have xl:=hbx.lt;obtain ⟨_,x0,x1,x2,x3,x4,x5,x6,_⟩:=hbx.av)
  |(go_at_call 6;refine (Nk _ _).mono ?_;rintro e w' ⟨rfl,rfl⟩)
  |(go_at_call 7;refine (Nl 20000 tr HN.out (by omega) _ _ _ _ _ (((HR1.out.aC ((Below.refl _ _).alloc (Nat.le_refl _) _)).aC hb2).aC ((Below.refl _ _).alloc (Nat.le_refl _) _)) (HR2.out.aC ((Below.refl _ _).alloc (Nat.le_refl _) _))).mono ?_;rintro e w3 ⟨rfl,hb3⟩)
  |(go_at_call 8;refine (Qz _ ((HT2.out.alloc _).below hb3)).mono ?_;rintro e w9 ⟨rfl,Tf⟩))
 go_ret
 exact ⟨rfl,((((hb1.alloc hb1.size _).trans (hb2.mono (by have:=hb1.size;simp;omega))).alloc (by have:=hb1.size;have:=hb2.size;simp at this;omega) _).trans (hb3.mono (by have:=hb1.size;have:=hb2.size;simp at this;simp;omega))).trans (Tf.mono (by have:=hb1.size;have:=hb2.size;have:=hb3.size;simp at*;omega))⟩
end Go.Proofs.YtnhidldofjengaaGreatDoor
