/- Both parsers, part 5. -/
import Derived.IntWalk
import Derived.Deep.LoopGhost
import Derived.Test.YtnhidldofjengaaGreatDoorParP0
import Derived.Test.YtnhidldofjengaaGreatDoorLexRD
namespace Go.Proofs.YtnhidldofjengaaGreatDoor
open Go.RowKit
open List renaming getElem_toArray->gA,getElem_cons_zero->gB,getElem_cons_succ->gC,setIfInBounds_toArray->gD,set_cons_zero->gE,set_cons_succ->gF
set_option linter.unusedVariables false
set_option linter.unusedSimpArgs false
set_option maxRecDepth 100000
set_option maxHeartbeats 4000000
theorem ag.wx {w w':World} {g b:Nat} {v:Value} {t:TypeId} {cs:Array Value} (h:ag w g t cs) (hg:Gr (WX b v) w w') (h1:g≠b) (h2:v.ownBlock≠some g):ag w' g t cs:=h.gr hg (by unfold WX;exact fun he=>he.elim h1 h2)
theorem jD {w w3 w':World} {b:Nat} {v:Value} (h:Gr (·=b) w w3) (h4:Gr (WX b v) w3 w') (hv:∀q,v.ownBlock=some q->w.heap.size<=q):Gr (·=b) w w':=h.wide h4 fun n hn hs=>by
 rcases hs with hs|hs
 ·exact hs
 ·have:=hv n hs;omega
theorem Row.same {w:World} {F F':Nat->Prop} {A:Option Addr} {n:Nat} {xs ys:List Value} (h1:Row w F A n xs) (h2:Row w F' A n ys):xs=ys:=by
 have l1:=h1.1
 have l2:=h2.1
 by_cases hn:0 < n
 ·obtain ⟨g,rfl,_,_,c1,_⟩:=h1.2 hn
  obtain ⟨g',e,_,_,c2,_⟩:=h2.2 hn
  injection e with e
  injection e with e
  subst e
  apply List.ext_getElem?
  intro j
  cases hx:xs[j]? with
  |none=>
   have:=List.getElem?_eq_none_iff.1 hx
   exact (List.getElem?_eq_none_iff.2 (by omega)).symm
  |some u=>
   have hj:=(List.getElem?_eq_some_iff.1 hx).1
   have hy:ys[j]? =some ys[j]:=List.getElem?_eq_getElem (by omega)
   have q1:=c1 j u hx
   have q2:=c2 j _ hy
   rw [q1] at q2
   injection q2 with q2
   rw [hy,<-q2]
 ·obtain rfl:n=0:=by omega
  rw [Nat.zero_mul] at l1 l2
  rw [List.eq_nil_of_length_eq_zero l1,List.eq_nil_of_length_eq_zero l2]
theorem Row.and {w:World} {F F':Nat->Prop} {A:Option Addr} {n:Nat} {xs:List Value} (h1:Row w F A n xs) (h2:Row w F' A n xs):Row w (fun g=>F g/\F' g) A n xs:=
 ⟨h1.1,fun hn=>by
  obtain ⟨g,rfl,f1,s1,c1,z1⟩:=h1.2 hn
  obtain ⟨g',e,f2,_,_,_⟩:=h2.2 hn
  injection e with e
  injection e with e
  subst e
  exact ⟨g,rfl,⟨f1,f2⟩,s1,c1,z1⟩⟩
mutual
theorem nW.and {w:World} {F F':Nat->Prop}:∀(t:Tr) (vs:List Value),nW w F t vs->nW w F' t vs->nW w (fun g=>F g/\F' g) t vs
 | .mk k op n p t a ks,vs,h,h'=>by
  simp only [nW] at h h' |-
  obtain ⟨A,c,xs,rfl,h2,h3⟩:=h
  obtain ⟨A',c',ys,e,h4,h5⟩:=h'
  simp only [GG,List.cons.injEq,Value.slice.injEq,and_true,true_and] at e
  obtain ⟨rfl,rfl⟩:=e
  have:=h2.same h4
  subst this
  exact ⟨A,c,xs,rfl,h2.and h4,bO.and ks xs h3 h5⟩
theorem bO.and {w:World} {F F':Nat->Prop}:∀(ts:List Tr) (xs:List Value),bO w F ts xs->bO w F' ts xs->bO w (fun g=>F g/\F' g) ts xs
 |[],xs,h,h'=>by simpa only [bO] using h
 |t :: r,xs,h,h'=>by
  simp only [bO] at h h' |-
  obtain ⟨a,q,rfl,h2,h3⟩:=h
  obtain ⟨a',q',e,h4,h5⟩:=h'
  have e2:=List.append_inj e (by rw [h2.length,h4.length])
  obtain ⟨rfl,rfl⟩:=e2
  exact ⟨a,q,rfl,nW.and t a h2 h4,bO.and r q h3 h5⟩
end
theorem aN.gr2 {w w':World} {lo h:Nat} {X:Nat->Prop} {v:Value} {ks:List Tr} (k:aN w lo h v ks) (kz:ah w lo X v ks) (hg:Gr (·=h) w w'):ah w' lo X v ks:=by
 have ho:=fun g (e:v.ownBlock=some g)=>k.own e
 obtain ⟨_,xs,h1,h2⟩:=k
 obtain ⟨z0,ys,z1,z2⟩:=kz
 have e:=Ew h1 z1
 subst e
 refine ⟨z0,xs,AR h1 fun g hv hlt=>hg.block g hlt (fun e=>(ho g hv).2.2 e),?_⟩
 exact (bO.and _ _ h2 z2).gr hg (fun g hq _ he=>hq.1.2.2 he) (fun g _ hq=>hq.2)
theorem aN.set2 {w:World} {lo h:Nat} {X:Nat->Prop} {v:Value} {ks:List Tr} (k:aN w lo h v ks) (kz:ah w lo X v ks) {p:Addr} (hp:p.block=h) (u:Value):ah (w.setCell p u) lo X v ks:=
 k.gr2 kz (Gr.setCell (S:=(·=h)) (p:=p) (Gr.refl w) (.inr hp) u)
theorem ah.rep {w:World} {lo:Nat} {X:Nat->Prop} {v:Value} {ks:List Tr} (h:ah w lo X v ks) (k op n:Int) (p t:List UInt8) (a:Nat):nW w (fun g=>lo<=g/\¬X g) (.mk k op n p t a ks) (GG k op n p t a v):=by
 obtain ⟨z0,xs,h1,h2⟩:=h
 obtain ⟨A,c,rfl⟩:=kM h1
 simp only [nW]
 refine ⟨A,c,xs,rfl,⟨h1.1,fun hn=>?_⟩,bO.keep (fun _ _ _=>rfl) (Nat.le_refl _) (fun g _ hg=>⟨hg.1,hg.2.2⟩) _ _ h2⟩
 obtain ⟨g,cap,hv,_,hlt⟩:=h1.form hn
 have hA:A=some ⟨g,0,none⟩:=by injection hv
 subst hA
 refine ⟨g,rfl,⟨(h1.lt g rfl).1,z0 g rfl⟩,hlt,fun j u hu=>?_,fun i=>h1.frozenAt i⟩
 have:=h1.cells (g:=g) rfl j u hu
 rw [<-this]
 congr 1
 unfold Addr.add
 by_cases hj:j=0 <;> simp [hj]
theorem ah.lI {w:World} {lo:Nat} {X:Nat->Prop} {k op m:Int} {p t:List UInt8} {a c:Nat} {A:Option Addr} {ks:List Tr} (h:ah w lo X (.slice A ks.length c) ks) (hl:lo<=w.heap.size) (hz:∀q,X q->q < w.heap.size):
  ah (w.alloc (.cells #[.int .i64 k,.int .i64 op,.int .i64 m,.string (bs p),.string (bs t),.int .i64 a,.slice A ks.length c] 24)) lo X (.slice (some ⟨w.heap.size,0,none⟩) 1 1) [.mk k op m p t a ks]:=by
 refine ⟨fun q e hq=>?_,_,World.ownsRow_lit w #[.int .i64 k,.int .i64 op,.int .i64 m,.string (bs p),.string (bs t),.int .i64 a,.slice A ks.length c] _ hl (by simp [maxLen]) (by rfl),?_⟩
 ·simp only [Value.ownBlock,Option.some.injEq] at e
  have:=hz q hq
  omega
 refine bO.keep (fun g _ hg=>Below.heap_alloc w _ g hg) (by simp) (fun g hlt hg=>⟨hg.1,?_,hg.2⟩) _ _ (bO.single (h.rep k op m p t a))
 simp only [Value.ownBlock,ne_eq,Option.some.injEq]
 omega
theorem ah.abD {w:World} {lo:Nat} {X:Nat->Prop} {k op m k' op' m':Int} {p t p' t':List UInt8} {a c a' c':Nat} {A A':Option Addr} {ks ks':List Tr} (h:ah w lo X (.slice A ks.length c) ks) (h':ah w lo X (.slice A' ks'.length c') ks') (hl:lo<=w.heap.size) (hz:∀q,X q->q < w.heap.size):
  ah (w.alloc (.cells #[.int .i64 k,.int .i64 op,.int .i64 m,.string (bs p),.string (bs t),.int .i64 a,.slice A ks.length c,.int .i64 k',.int .i64 op',.int .i64 m',.string (bs p'),.string (bs t'),.int .i64 a',.slice A' ks'.length c'] 24)) lo X (.slice (some ⟨w.heap.size,0,none⟩) 2 2) [.mk k op m p t a ks,.mk k' op' m' p' t' a' ks']:=by
 refine ⟨fun q e hq=>?_,_,World.ownsRow_lit w #[.int .i64 k,.int .i64 op,.int .i64 m,.string (bs p),.string (bs t),.int .i64 a,.slice A ks.length c,.int .i64 k',.int .i64 op',.int .i64 m',.string (bs p'),.string (bs t'),.int .i64 a',.slice A' ks'.length c'] _ hl (by simp [maxLen]) (by rfl),?_⟩
 ·simp only [Value.ownBlock,Option.some.injEq] at e
  have:=hz q hq
  omega
 refine bO.keep (fun g _ hg=>Below.heap_alloc w _ g hg) (by simp) (fun g hlt hg=>⟨hg.1,?_,hg.2⟩) _ _ (bO.append (bO.single (h.rep k op m p t a)) (bO.single (h'.rep k' op' m' p' t' a')))
 simp only [Value.ownBlock,ne_eq,Option.some.injEq]
 omega
theorem ah.QK {w:World} {lo g:Nat} {X:Nat->Prop} {k op m k' op' m':Int} {p t p' t':List UInt8} {a c a' c':Nat} {A A':Option Addr} {ks ks':List Tr} (h:ah w lo X (.slice A ks.length c) ks) (h':ah w lo X (.slice A' ks'.length c') ks') (hl:lo<=w.heap.size) (hz:∀q,X q->q < w.heap.size) (hg:g=w.heap.size):
  ah (w.alloc (.cells #[.int .i64 k,.int .i64 op,.int .i64 m,.string (bs p),.string (bs t),.int .i64 a,.slice A ks.length c,.int .i64 k',.int .i64 op',.int .i64 m',.string (bs p'),.string (bs t'),.int .i64 a',.slice A' ks'.length c'] 24)) lo X (.slice (some ⟨g,0,none⟩) 2 2) [.mk k op m p t a ks,.mk k' op' m' p' t' a' ks']:=by
 subst hg
 exact ah.abD h h' hl hz
theorem ah.mono {w:World} {lo lo':Nat} {X:Nat->Prop} {v:Value} {ks:List Tr} (k:ah w lo X v ks) (hl:lo'<=lo):ah w lo' X v ks:=by
 obtain ⟨h0,xs,h1,h2⟩:=k
 exact ⟨h0,xs,Eg h1 hl,bO.keep (fun _ _ _=>rfl) (Nat.le_refl _) (fun g _ hg=>⟨Nat.le_trans hl hg.1,hg.2⟩) _ _ h2⟩
theorem uU {n:Nat} {p:Pt} {l:List T} {o:Nat} {g:Tr->List T->R} {r:R} (hq:bnd (go n (.head p) l o) g=r):bnd (go n (.head p) l o) (fun h q=>if h.num=0\/h.num=1 then g h q else .out)=r:=by
 cases n with
 |zero=>exact hq
 |succ n=>
  simp only [go] at hq |-
  generalize go n (.within [40] [41] p) l o=W at hq |-
  cases W with
  |out=>exact hq
  |bad a e=>exact hq
  |ok ks q=>
   simp only [dM] at hq |-
   by_cases hb:begins q=true
   ·rw [if_pos hb] at hq |-
    generalize go n .typeOf q o=V at hq |-
    cases V with
    |out=>exact hq
    |bad a e=>exact hq
    |ok t q2=>
     simp only [dM] at hq |-
     rw [if_pos (.inr rfl)]
     exact hq
   ·rw [if_neg hb] at hq |-
    simp only [dM] at hq |-
    rw [if_pos (.inl rfl)]
    exact hq
theorem yA {m:List UInt8} {l:List T} {f:T->List T->R} {r:R} (hm:mark l=m) (h:dI l f=r):want m l f=r:=by unfold want;rw [if_pos hm];exact h
theorem uk (E:Env) (lo o:Nat) (g:Tr->List T->R) (r:R) (hb:E.b < lo) (hg:E.g < lo) (us:List Tr):Calm lo (Cg E o g r us):=fun w w' h hgr=>by
 obtain ⟨l,h1,h2⟩:=h
 exact ⟨l,h1,oV E lo l o hb hg _ _ h2 hgr⟩
theorem Jn {E:Env} {w w':World} {o:Nat} {g:Tr->List T->R} {r:R} {e:Ending} (h:UW E w o g r e w'):Jm E.b w (oO r) (Cg E o g r) e w':=by
 obtain ⟨h1,⟨a,k,h2,h3⟩|⟨ks,A,c,l,h2,h3,h4,h5,h6⟩⟩:=h
 ·exact ⟨h1,.inl ⟨_,⟨a,k,h2,rfl⟩,h3⟩⟩
 ·exact ⟨h1,.inr ⟨ks,A,c,h2,h5,h4,l,h3,h6⟩⟩
theorem ag.NP {w w':World} {g:Nat} {t:TypeId} {cs:Array Value} (h:ag w g t cs) (hb:Below w.heap.size w w'):ag w' g t cs:=h.below hb h.lt
structure St where
 l:List T
 o:Int
 e:Int
 p:Nat
def hd:List T->T
 |[]=>(⟨0,[],0⟩,0)
 |x :: _=>x
def St.tl (s:St):St:={ s with l:=s.l.drop 1 }
def fE (c:Int) (s:St):St:=if s.e=0 then { s with e:=c,p:=(hd s.l).2 } else s
def bX (m:List UInt8) (s:St):Bool:=decide (s.e=0) && decide (mark s.l=m)
def nE (s:St):Bool:=decide (s.e=0) && decide (kind s.l=1)
def opens (m:List UInt8):Bool:=decide (m=[40]) || (decide (m=[91]) || decide (m=[123]))
def closes (m:List UInt8):Bool:=decide (m=[41]) || (decide (m=[93]) || decide (m=[125]))
def aj (m:List UInt8) (s:St):St:=
 if bX m s=true then
  (if opens m=true then (if 40<=s.o then fE 3 s else { s.tl with o:=s.o+1 }) else if closes m=true then { s.tl with o:=s.o - 1 } else s.tl)
 else fE 5 s
def ay (s:St):List UInt8:=if nE s=true then (hd s.l).1.t else []
def aG (s:St):St:=if nE s=true then s.tl else fE 5 s
structure RS (E:Env) (w:World) (s:St):Prop where
 blk:ag w E.b 61 #[.slice (some ⟨E.g,0,none⟩) E.ts.length E.c,.int .i64 ((E.ts.length - s.l.length:Nat):Int),.int .i64 s.o,.int .i64 s.e,.int .i64 (s.p:Int)]
 toks:AL w E.g E.ts
 ne:E.g≠E.b
 good:good s.l
 Nn:s.l <:+E.ts
 olo:(s.l.length:Int)<=s.o+E.ts.length
 ohi:s.o<=40
 len:E.ts.length<=8193
 nums:∀x∈E.ts,0<=x.1.n/\x.1.n<=9223372036854775807
section
variable {E : Env} {w w' : World} {s : St}
theorem RS.lt (h:RS E w s):E.b < w.heap.size:=h.blk.lt
theorem RS.iy (h:RS E w s):E.g < w.heap.size:=h.toks.lt
theorem RS.gr {S:Nat->Prop} (h:RS E w s) (hg:Gr S w w') (h1:¬S E.b) (h2:¬S E.g):RS E w' s:=
 ⟨hg.blk h.blk h1,h.toks.gr hg h2,h.ne,h.good,h.Nn,h.olo,h.ohi,h.len,h.nums⟩
theorem RS.below (h:RS E w s) (hb:Below w.heap.size w w'):RS E w' s:=h.gr (Gr.of_below hb (S:=fun _=>False)) id id
theorem RS.alloc (h:RS E w s) (ob:Obj):RS E (w.alloc ob) s:=h.gr ((Gr.refl w (S:=fun _=>False)).alloc ob) id id
theorem RS.drew (h:RS E w s):RS E w.drew s:=h.gr ((Gr.refl w (S:=fun _=>False)).drew) id id
theorem RS.setCell (h:RS E w s) {p:Addr} (h1:p.block≠E.b) (h2:p.block≠E.g) (u:Value):RS E (w.setCell p u) s:=
 h.gr ((Gr.refl w (S:=fun k=>k=p.block)).setCell (.inr rfl) u) (fun h=>h1 h.symm) (fun h=>h2 h.symm)
theorem RS.cons (h:RS E w s):∃x r,s.l=x :: r:=by
 have h1:=h.good
 cases hl:s.l with
 |nil=>rw [hl] at h1;exact absurd h1 id
 |cons x r=>exact ⟨x,r,rfl⟩
theorem RS.here (h:RS E w s):∃j:Nat,E.ts.length - s.l.length=j/\j < E.ts.length/\
  w.cell? ⟨E.b,0,none⟩=some (.slice (some ⟨E.g,0,none⟩) E.ts.length E.c)/\w.cell? ⟨E.b,1,none⟩=some (.int .i64 (j:Int))/\w.cell? ⟨E.b,2,none⟩=some (.int .i64 s.o)/\w.cell? ⟨E.b,3,none⟩=some (.int .i64 s.e)/\w.cell? ⟨E.b,4,none⟩=some (.int .i64 (s.p:Int))/\
  w.cell? ⟨E.g,j*4,none⟩=some (.int .i64 (hd s.l).1.k)/\w.cell? ⟨E.g,j*4+1,none⟩=some (.string (bs (hd s.l).1.t))/\w.cell? ⟨E.g,j*4+2,none⟩=some (.int .i64 (hd s.l).1.n)/\w.cell? ⟨E.g,j*4+3,none⟩=some (.int .i64 (hd s.l).2)/\∀i,w.frozen? ⟨E.b,i,none⟩=false:=by
 obtain ⟨x,r,hx⟩:=h.cons
 have h1:=h.Nn
 have h2:=h.blk
 rw [hx] at h1 h2 |-
 obtain ⟨q,hq⟩:=h1
 have h3:E.ts.length=q.length+(r.length+1):=by rw [<-hq];simp
 have h4:E.ts[E.ts.length - (x :: r).length]? =some x:=by
  rw [<-hq]
  simp
 obtain ⟨c0,c1,c2,c3⟩:=h.toks.cell _ x h4
 exact ⟨_,rfl,by simp only [List.length_cons];omega,h2.cell 0,h2.cell 1,h2.cell 2,h2.cell 3,h2.cell 4,c0,c1,c2,c3,fun i=>h2.frozen i⟩
theorem RS.ZK (h:RS E w s):0<=(hd s.l).1.n/\(hd s.l).1.n<=9223372036854775807:=by
 obtain ⟨x,r,hx⟩:=h.cons
 have h1:=h.Nn
 rw [hx] at h1 |-
 exact h.nums x (h1.subset (by simp))
theorem QL {x:T} {r:List T} (h:good (x :: r)) (hx:x.1.k≠0):good r:=by
 rw [Cb,if_neg hx] at h
 exact h
theorem RS.step (h:RS E w s) (hk:(hd s.l).1.k≠0) (o':Int) (h1:s.o - 1<=o') (h2:o'<=40) {w':World} (hb:ag w' E.b 61 #[.slice (some ⟨E.g,0,none⟩) E.ts.length E.c,.int .i64 ((E.ts.length - s.l.length:Nat)+1:Int),.int .i64 o',.int .i64 s.e,.int .i64 (s.p:Int)]) (hg:Gr (·=E.b) w w'):RS E w' { s.tl with o:=o' }:=by
 obtain ⟨x,r,hx⟩:=h.cons
 have hs:=h.Nn
 have hgd:=h.good
 have hol:=h.olo
 rw [hx] at hs hgd hol hk hb
 have hl:=hs.length_le
 simp only [List.length_cons] at hl hol hb
 have e:s.tl.l=r:=by unfold St.tl;rw [hx];rfl
 refine ⟨?_,h.toks.gr hg h.ne,h.ne,?_,?_,?_,h2,h.len,h.nums⟩
 ·show ag w' E.b _ #[_,.int .i64 ((E.ts.length - s.tl.l.length:Nat):Int),_,_,_]
  rw [e,show ((E.ts.length - r.length:Nat):Int)=((E.ts.length - (r.length+1):Nat):Int)+1 by omega]
  exact hb
 ·show Go.Proofs.YtnhidldofjengaaGreatDoor.good s.tl.l
  rw [e]
  exact QL hgd hk
 ·show s.tl.l <:+E.ts
  rw [e]
  exact (List.suffix_cons x r).trans hs
 ·show (s.tl.l.length:Int)<=o'+E.ts.length
  rw [e]
  push_cast at hol
  omega
theorem RS.fail (h:RS E w s) (c:Int) (he:s.e=0) {w':World} (hb:ag w' E.b 61 #[.slice (some ⟨E.g,0,none⟩) E.ts.length E.c,.int .i64 ((E.ts.length - s.l.length:Nat):Int),.int .i64 s.o,.int .i64 c,.int .i64 ((hd s.l).2:Int)]) (hg:Gr (·=E.b) w w'):RS E w' (fE c s):=by
 unfold fE
 rw [if_pos he]
 exact ⟨hb,h.toks.gr hg h.ne,h.ne,h.good,h.Nn,h.olo,h.ohi,h.len,h.nums⟩
end
theorem xz {m:List UInt8} {s:St} (h:bX m s=true) (hm:m≠[]):s.e=0/\mark s.l=m/\(hd s.l).1.k≠0:=by
 unfold bX at h
 simp only [Bool.and_eq_true,decide_eq_true_eq] at h
 refine ⟨h.1,h.2,?_⟩
 cases hl:s.l with
 |nil=>rw [hl] at h;exact absurd h.2.symm hm
 |cons x r=>
  rw [hl,yw] at h
  intro h0
  have h1:x.1.k=0:=h0
  rw [h1,if_neg (by decide)] at h
  exact absurd h.2.symm hm
theorem um (w:World) (v0 v1 v2 v3:Value):Below w.heap.size w (((((w.drew.alloc (.cells #[.int .i64 0,.string ⟨#[]⟩,.int .i64 0,.int .i64 0] 53)).setCell ⟨w.heap.size,0,none⟩ v0).setCell ⟨w.heap.size,1,none⟩ v1).setCell ⟨w.heap.size,2,none⟩ v2).setCell ⟨w.heap.size,3,none⟩ v3):=
 (((((Below.refl _ w).drew.alloc (Nat.le_refl _) _).setCell (p:=⟨w.heap.size,0,none⟩) (Nat.le_refl _) v0).setCell (p:=⟨w.heap.size,1,none⟩) (Nat.le_refl _) v1).setCell (p:=⟨w.heap.size,2,none⟩) (Nat.le_refl _) v2).setCell (p:=⟨w.heap.size,3,none⟩) (Nat.le_refl _) v3
theorem uo (w:World) (v0 v1 v2 v3:Value):ag (((((w.drew.alloc (.cells #[.int .i64 0,.string ⟨#[]⟩,.int .i64 0,.int .i64 0] 53)).setCell ⟨w.heap.size,0,none⟩ v0).setCell ⟨w.heap.size,1,none⟩ v1).setCell ⟨w.heap.size,2,none⟩ v2).setCell ⟨w.heap.size,3,none⟩ v3) w.heap.size 53 #[v0,v1,v2,v3]:=
 ag.four (ag.new w.drew _ _) v0 v1 v2 v3
theorem mU {P:Program} {o:Oper} {a:Act} {w w':World} {K:Act->World->Prop} {Q:Exit->Act->World->Prop} (h:(execOp a.eval o).run P w= .ok .skip w') (hk:K (a.put o.dst undef) w'):o.wp P a w K Q:=by
 unfold Oper.wp
 rw [h]
 exact hk
theorem abE {m:List UInt8} (hm:m≠[]) {s:St} {x:T} {r:List T} (hl:s.l=x :: r):bX m s=(decide (s.e=0) && (decide (x.1.k=5\/x.1.k=2) && decide (x.1.t=m))):=by
 unfold bX
 rw [hl,yw]
 by_cases h:x.1.k=2\/x.1.k=5
 ·rw [if_pos h,decide_eq_true (show x.1.k=5\/x.1.k=2 from h.symm)];simp
 ·rw [if_neg h,decide_eq_false (show ¬(x.1.k=5\/x.1.k=2) from fun h'=>h h'.symm),decide_eq_false (fun e:[]=m=>hm e.symm)];simp
def IsP (b:Bool) (w:World) (e:Ending) (w':World):Prop:=e= .returned (.bool b)/\Below w.heap.size w w'
theorem au (E:Env) (w:World) (s:St) (h:RS E w s) (m:List UInt8) (str:ByteArray) (hs:str=bs m) (hm:m≠[]:=by simp):
  Calls Tryz.prog 27 #[.pointer (some ⟨E.b,0,none⟩),.string str] w (IsP (bX m s) w):=by
 obtain ⟨x,r,hx⟩:=h.cons
 rw [abE hm hx]
 have hxh:hd s.l=x:=by rw [hx];rfl
 subst hs
 obtain ⟨j,hj,hjl,k0,k1,k2,k3,k4,q0,q1,q2,q3,fz⟩:=h.here
 have hlt:=h.lt
 have hgl:=h.iy
 have hll:=h.len
 have hne:=h.ne
 obtain ⟨B,hB⟩:=aS E.b
 obtain ⟨G,hG⟩:=aS E.g
 obtain ⟨N,hN⟩:=aS E.ts.length
 obtain ⟨C,hC⟩:=aS E.c
 obtain ⟨so,hso⟩:=aS s.o
 obtain ⟨se,hse⟩:=aS s.e
 obtain ⟨sp,hsp⟩:=aS s.p
 obtain ⟨tk,htk⟩:=aS (hd s.l).1.k
 obtain ⟨tt,rP⟩:=aS (hd s.l).1.t
 obtain ⟨tn,htn⟩:=aS (hd s.l).1.n
 obtain ⟨tp,htp⟩:=aS (hd s.l).2
 rw [hB] at k0 k1 k2 k3 k4 fz hlt
 rw [hG,hN,hC] at k0
 rw [hso] at k2
 rw [hse] at k3
 rw [hsp] at k4
 rw [hG,htk] at q0
 rw [hG,rP] at q1
 rw [hG,htn] at q2
 rw [hG,htp] at q3
 rw [hG] at hgl
 rw [hN] at hjl hll
 rw [hG,hB] at hne
 have oG:=af hB
 have Nq:=af hG
 have Nr:=af hN
 have Jo:=af hC
 have yB:=af hso
 have HSE:=af hse
 have HSP:=af hsp
 have Li:=af htk
 have Sq:=af rP
 have U3:=af htn
 have GI:=af htp
 have j0:(0:Int)<=(j:Int):=by omega
 have j1:(j:Int) < (N:Int):=by omega
 have j2:(j:Int)<=8193:=by omega
 rw [hxh] at htk rP
 rw [htk,rP,hse,hB]
 obtain ⟨R,hR⟩:∃R,(decide (se=0) && (decide (tk=5\/tk=2) && decide (tt=m)))=R:=⟨_,rfl⟩
 rw [hR]
 clear hx hxh hm
 clear h hj hjl hll hB hG hN hC hso hse hsp htn htp
 clear htk rP
 go_enter Tryz.func27,Tryz.ntmps27
 go_wp2
 refine wp_region_held_drew (S:=fun V=>Below w.heap.size w V) (by kernel_rfl) (Below.refl _ w).drew (fun hS0=>?_)
 refine aQ 0 hS0 ?_
 refine aQ 1 hS0 ?_
 refine aQ 2 hS0 ?_
 refine jS 3 hS0 ?_ (fun w' hS=>(hS.cell (p:=⟨B,0,none⟩) hlt).trans k0)
 refine aQ 4 hS0 ?_
 refine aQ 5 hS0 ?_
 refine aQ 6 hS0 ?_
 refine jS 7 hS0 ?_ (fun w' hS=>(hS.cell (p:=⟨B,1,none⟩) hlt).trans k1)
 refine aQ 8 hS0 ?_
 refine oU 9 hS0 ?_ (he:=fun w' hS=>by (have y0:=(hS.cell (p:=⟨G,_,none⟩) hgl).trans q0;have y1:=(hS.cell (p:=⟨G,_,none⟩) hgl).trans q1;have y2:=(hS.cell (p:=⟨G,_,none⟩) hgl).trans q2;have y3:=(hS.cell (p:=⟨G,_,none⟩) hgl).trans q3;unfold execOp;go_simp;first|done|exact rfl))
 refine oI 10 rfl (aY (v:=.pointer (some ⟨w.heap.size,0,none⟩)) (w':=(w.drew.alloc (.cells #[.int .i64 0,.string ⟨#[]⟩,.int .i64 0,.int .i64 0] 53))) (by unfold execOp;go_simp) (And.intro ((Below.refl _ w).drew.alloc (by simp) _) ?_))
 simp only [Act.put,gA,gB,gC,gD,gE,gF]
 obtain ⟨V,qg⟩:=aS (((((w.drew.alloc (.cells #[.int .i64 0,.string ⟨#[]⟩,.int .i64 0,.int .i64 0] 53)).setCell ⟨w.heap.size,0,none⟩ (.int .i64 tk)).setCell ⟨w.heap.size,1,none⟩ (.string (bs tt))).setCell ⟨w.heap.size,2,none⟩ (.int .i64 tn)).setCell ⟨w.heap.size,3,none⟩ (.int .i64 tp))
 have QM:Below w.heap.size w V:=qg▸um w _ _ _ _
 have U4:ag V w.heap.size 53 (T4 tk (bs tt) tn tp):=qg▸uo w _ _ _ _
 refine oI 11 rfl (mU (w':=V) (by rw [<-qg];unfold execOp;go_simp) (And.intro QM ?_))
 simp only [Act.put,gA,gB,gC,gD,gE,gF]
 refine eZ ?_
 have t0:=U4.cell 0
 have t1:=U4.cell 1
 have t2:=U4.cell 2
 have t3:=U4.cell 3
 have e3:=(QM.cell (p:=⟨B,3,none⟩) hlt).trans k3
 have HV:=af QM
 clear qg hS0 U4 k0 k1 k2 k3 k4 q0 q1 q2 q3 fz QM
 by_cases h0:se=0
 case neg=>
  have e0:(se == 0)=false:=by simpa using h0
  have HE:=af (show R=false from by rw [<-hR];simp [h0])
  clear h0 hR
  go_wp2
  go_ret
  exact ⟨by rw [HE.out];rfl,HV.out⟩
 subst h0
 by_cases h5:tk=5
 ·subst h5
  by_cases ht:tt=m
  ·subst ht
   have HE:=af (show R=true from by rw [<-hR];simp)
   clear hR
   go_wp2
   go_ret
   exact ⟨by rw [HE.out];rfl,HV.out⟩
  ·have b0:=Cc ht
   have HE:=af (show R=false from by rw [<-hR];simp [ht])
   clear ht hR
   go_wp2
   go_ret
   exact ⟨by rw [HE.out];rfl,HV.out⟩
 have c5:(tk == 5)=false:=by simpa using h5
 by_cases h2:tk=2
 ·subst h2
  by_cases ht:tt=m
  ·subst ht
   have HE:=af (show R=true from by rw [<-hR];simp)
   clear hR
   go_wp2
   go_ret
   exact ⟨by rw [HE.out];rfl,HV.out⟩
  ·have b0:=Cc ht
   have HE:=af (show R=false from by rw [<-hR];simp [ht])
   clear ht hR
   go_wp2
   go_ret
   exact ⟨by rw [HE.out];rfl,HV.out⟩
 have c2:(tk == 2)=false:=by simpa using h2
 have HE:=af (show R=false from by rw [<-hR];simp [h5,h2])
 clear h5 h2 hR
 go_wp2
 go_ret
 exact ⟨by rw [HE.out];rfl,HV.out⟩
theorem gJ (E:Env) (w:World) (s:St) (h:RS E w s):
  Calls Tryz.prog 48 #[.pointer (some ⟨E.b,0,none⟩)] w (IsP (nE s) w):=by
 obtain ⟨x,r,hx⟩:=h.cons
 have hxh:hd s.l=x:=by rw [hx];rfl
 have hnm:nE s=(decide (s.e=0) && decide (x.1.k=1)):=by unfold nE;rw [hx];rfl
 rw [hnm]
 obtain ⟨j,hj,hjl,k0,k1,k2,k3,k4,q0,q1,q2,q3,fz⟩:=h.here
 have hlt:=h.lt
 have hgl:=h.iy
 have hll:=h.len
 have hne:=h.ne
 obtain ⟨B,hB⟩:=aS E.b
 obtain ⟨G,hG⟩:=aS E.g
 obtain ⟨N,hN⟩:=aS E.ts.length
 obtain ⟨C,hC⟩:=aS E.c
 obtain ⟨so,hso⟩:=aS s.o
 obtain ⟨se,hse⟩:=aS s.e
 obtain ⟨sp,hsp⟩:=aS s.p
 obtain ⟨tk,htk⟩:=aS (hd s.l).1.k
 obtain ⟨tt,rP⟩:=aS (hd s.l).1.t
 obtain ⟨tn,htn⟩:=aS (hd s.l).1.n
 obtain ⟨tp,htp⟩:=aS (hd s.l).2
 rw [hB] at k0 k1 k2 k3 k4 fz hlt
 rw [hG,hN,hC] at k0
 rw [hso] at k2
 rw [hse] at k3
 rw [hsp] at k4
 rw [hG,htk] at q0
 rw [hG,rP] at q1
 rw [hG,htn] at q2
 rw [hG,htp] at q3
 rw [hG] at hgl
 rw [hN] at hjl hll
 rw [hG,hB] at hne
 have oG:=af hB
 have Nq:=af hG
 have Nr:=af hN
 have Jo:=af hC
 have yB:=af hso
 have HSE:=af hse
 have HSP:=af hsp
 have Li:=af htk
 have Sq:=af rP
 have U3:=af htn
 have GI:=af htp
 have j0:(0:Int)<=(j:Int):=by omega
 have j1:(j:Int) < (N:Int):=by omega
 have j2:(j:Int)<=8193:=by omega
 rw [hxh] at htk
 rw [htk,hse,hB]
 clear hx hxh hnm
 clear h hj hjl hll hB hG hN hC hso hse hsp rP htn htp
 clear htk
 by_cases h0:se=0
 case neg=>
  have e0:(se == 0)=false:=by simpa using h0
  rw [decide_eq_false h0]
  clear h0
  go_enter Tryz.func48,Tryz.ntmps48
  go_wp2
  refine wp_region_held_drew (S:=fun V=>Below w.heap.size w V) (by kernel_rfl) (Below.refl _ w).drew (fun hS0=>?_)
  generalize w.drew=W1 at hS0 |-
  refine aQ 0 hS0 ?_
  refine aQ 1 hS0 ?_
  refine aQ 2 hS0 ?_
  refine jS 3 hS0 ?_ (fun w' hS=>(hS.cell (p:=⟨B,3,none⟩) hlt).trans k3)
  refine oU 4 hS0 ?_ (he:=fun w' hS=>by (unfold execOp;go_simp;first|done|exact rfl))
  refine aQ 5 hS0 ?_
  refine lg 6 hS0 ?_
  refine lg 7 hS0 ?_
  refine lg 8 hS0 ?_
  refine lg 9 hS0 ?_
  refine lg 10 hS0 ?_
  refine lg 11 hS0 ?_
  refine lg 12 hS0 ?_
  refine lg 13 hS0 ?_
  refine lg 14 hS0 ?_
  refine lg 15 hS0 ?_
  refine lg 16 hS0 ?_
  refine lg 17 hS0 ?_
  refine aQ 18 hS0 ?_
  refine aQ 19 hS0 ?_
  refine eZ ?_
  go_wp2
  go_ret
  exact ⟨by simp,hS0⟩
 subst h0
 by_cases h1:tk=1
 ·subst h1
  go_enter Tryz.func48,Tryz.ntmps48
  go_wp2
  refine wp_region_held_drew (S:=fun V=>Below w.heap.size w V) (by kernel_rfl) (Below.refl _ w).drew (fun hS0=>?_)
  generalize w.drew=W1 at hS0 |-
  refine aQ 0 hS0 ?_
  refine aQ 1 hS0 ?_
  refine aQ 2 hS0 ?_
  refine jS 3 hS0 ?_ (fun w' hS=>(hS.cell (p:=⟨B,3,none⟩) hlt).trans k3)
  refine aQ 4 hS0 ?_
  refine aQ 5 hS0 ?_
  refine iV 6 hS0 ?_
  refine iV 7 hS0 ?_
  refine iV 8 hS0 ?_
  refine mQ 9 hS0 ?_ (fun w' hS=>(hS.cell (p:=⟨B,0,none⟩) hlt).trans k0)
  refine iV 10 hS0 ?_
  refine iV 11 hS0 ?_
  refine iV 12 hS0 ?_
  refine mQ 13 hS0 ?_ (fun w' hS=>(hS.cell (p:=⟨B,1,none⟩) hlt).trans k1)
  refine iV 14 hS0 ?_
  refine iV 15 hS0 ?_
  refine mQ 16 hS0 ?_ (fun w' hS=>(hS.cell (p:=⟨G,_,none⟩) hgl).trans q0)
  refine iV 17 hS0 ?_
  refine aQ 18 hS0 ?_
  refine aQ 19 hS0 ?_
  refine eZ ?_
  go_wp2
  go_ret
  exact ⟨by simp,hS0⟩
 ·have c1:(tk == 1)=false:=by simpa using h1
  rw [decide_eq_false h1]
  clear h1
  go_enter Tryz.func48,Tryz.ntmps48
  go_wp2
  refine wp_region_held_drew (S:=fun V=>Below w.heap.size w V) (by kernel_rfl) (Below.refl _ w).drew (fun hS0=>?_)
  generalize w.drew=W1 at hS0 |-
  refine aQ 0 hS0 ?_
  refine aQ 1 hS0 ?_
  refine aQ 2 hS0 ?_
  refine jS 3 hS0 ?_ (fun w' hS=>(hS.cell (p:=⟨B,3,none⟩) hlt).trans k3)
  refine aQ 4 hS0 ?_
  refine aQ 5 hS0 ?_
  refine iV 6 hS0 ?_
  refine iV 7 hS0 ?_
  refine iV 8 hS0 ?_
  refine mQ 9 hS0 ?_ (fun w' hS=>(hS.cell (p:=⟨B,0,none⟩) hlt).trans k0)
  refine iV 10 hS0 ?_
  refine iV 11 hS0 ?_
  refine iV 12 hS0 ?_
  refine mQ 13 hS0 ?_ (fun w' hS=>(hS.cell (p:=⟨B,1,none⟩) hlt).trans k1)
  refine iV 14 hS0 ?_
  refine iV 15 hS0 ?_
  refine mQ 16 hS0 ?_ (fun w' hS=>(hS.cell (p:=⟨G,_,none⟩) hgl).trans q0)
  refine Sl 17 hS0 ?_ (he:=fun w' _=>by (unfold execOp;go_simp;first|done|exact rfl))
  refine aQ 18 hS0 ?_
  refine aQ 19 hS0 ?_
  refine eZ ?_
  go_wp2
  go_ret
  exact ⟨by simp,hS0⟩
theorem vK {b:Nat} {w w':World} (h:Gr (·=b) w w') (i:Nat) (v:Value):Gr (·=b) w (w'.setCell ⟨b,i,none⟩ v):=h.setCell (p:=⟨b,i,none⟩) (.inr rfl) v
theorem YJ {E:Env} {w:World} {s:St} (h:RS E w s) (he:s.e=0) (c:Int):RS E (((w.setCell ⟨E.b,3,none⟩ (.int .i64 c)).drew).setCell ⟨E.b,4,none⟩ (.int .i64 ((hd s.l).2:Int))) (fE c s):=
 RS.fail h c he (((h.blk.ny 3 _).drew).ny 4 _) (vK ((vK (Gr.refl w) 3 _).drew) 4 _)
def adg (E:Env) (s:St) (w:World) (e:Ending) (w':World):Prop:=e= .returned (.tuple #[])/\RS E w' s/\Gr (·=E.b) w w'
theorem kV (E:Env) (w:World) (s:St) (h:RS E w s) (c:Int):
  Calls Tryz.prog 47 #[.pointer (some ⟨E.b,0,none⟩),.int .i64 c] w (adg E (fE c s) w):=by
 obtain ⟨j,hj,hjl,k0,k1,k2,k3,k4,q0,q1,q2,q3,fz⟩:=h.here
 have hlt:=h.lt
 have hgl:=h.iy
 have hll:=h.len
 have hne:=h.ne
 have H:=af h
 obtain ⟨B,hB⟩:=aS E.b
 obtain ⟨G,hG⟩:=aS E.g
 obtain ⟨N,hN⟩:=aS E.ts.length
 obtain ⟨C,hC⟩:=aS E.c
 obtain ⟨so,hso⟩:=aS s.o
 obtain ⟨se,hse⟩:=aS s.e
 obtain ⟨sp,hsp⟩:=aS s.p
 obtain ⟨tk,htk⟩:=aS (hd s.l).1.k
 obtain ⟨tt,rP⟩:=aS (hd s.l).1.t
 obtain ⟨tn,htn⟩:=aS (hd s.l).1.n
 obtain ⟨tp,htp⟩:=aS (hd s.l).2
 rw [hB] at k0 k1 k2 k3 k4 fz hlt
 rw [hG,hN,hC] at k0
 rw [hso] at k2
 rw [hse] at k3
 rw [hsp] at k4
 rw [hG,htk] at q0
 rw [hG,rP] at q1
 rw [hG,htn] at q2
 rw [hG,htp] at q3
 rw [hG] at hgl
 rw [hN] at hjl hll
 rw [hG,hB] at hne
 have oG:=af hB
 have HSE:=af hse
 have GI:=af htp
 have j0:(0:Int)<=(j:Int):=by omega
 have j1:(j:Int) < (N:Int):=by omega
 rw [hB]
 clear h hj hjl hll hB hG hN hC hso hse hsp htk rP htn htp
 by_cases h0:se=0
 case neg=>
  have e0:(se == 0)=false:=by simpa using h0
  have hfm:fE c s=s:=by unfold fE;rw [if_neg (by rw [HSE.out];exact h0)]
  rw [hfm]
  clear h0 hfm
  go_enter Tryz.func47,Tryz.ntmps47
  go_wp2
  exact bodyPost_end (results_none rfl _ _ _) rfl ⟨rfl,H.out,Gr.refl _⟩
 subst h0
 have f3:=fz 3
 have f4:=fz 4
 have hres:=YJ H.out HSE.out c
 rw [oG.out,GI.out] at hres
 have adh:=af hres
 clear hres fz
 go_enter Tryz.func47,Tryz.ntmps47
 go_wp2
 obtain ⟨W,hW⟩:=aS (w.setCell ⟨B,3,none⟩ (.int .i64 c))
 have m0:W.cell? ⟨B,0,none⟩=some (.slice (some ⟨G,0,none⟩) N C):=by rw [<-hW,World.cell?_setCell_other _ _ _ _ (by intro e;simp at e)];exact k0
 have m1:W.cell? ⟨B,1,none⟩=some (.int .i64 j):=by rw [<-hW,World.cell?_setCell_other _ _ _ _ (by intro e;simp at e)];exact k1
 have m4:W.cell? ⟨B,4,none⟩=some (.int .i64 sp):=by rw [<-hW,World.cell?_setCell_other _ _ _ _ (by intro e;simp at e)];exact k4
 have n3:W.cell? ⟨G,j*4+3,none⟩=some (.int .i64 tp):=by rw [<-hW,World.cell?_setCell_other _ _ _ _ (by intro e;simp at e <;> exact hne e.1.symm)];exact q3
 have mf:W.frozen? ⟨B,4,none⟩=false:=by rw [<-hW];simpa using f4
 have hwl:B < W.heap.size:=by rw [<-hW];simpa using hlt
 have hwg:G < W.heap.size:=by rw [<-hW];simpa using hgl
 have HWW:=af hW
 rw [hW]
 rw [hW] at adh
 have m4':W.drew.cell? ⟨B,4,none⟩=some (.int .i64 sp):=m4
 have mf':W.drew.frozen? ⟨B,4,none⟩=false:=mf
 clear hW k0 k1 k2 k3 k4 q0 q1 q2 q3 f3 f4
 refine wp_region_held_drew (S:=(fun V=>V.cell? ⟨B,0,none⟩=some (.slice (some ⟨G,0,none⟩) N C)/\V.cell? ⟨B,1,none⟩=some (.int .i64 (j:Int))/\V.cell? ⟨G,j*4+3,none⟩=some (.int .i64 (tp:Int))/\B < V.heap.size/\G < V.heap.size)) (by kernel_rfl) ⟨m0,m1,n3,hwl,hwg⟩ (fun hS0=>?_)
 refine aQ 0 hS0 ?_
 refine aQ 1 hS0 ?_
 refine aQ 2 hS0 ?_
 refine aQ 3 hS0 ?_
 refine oU 4 hS0 ?_ (he:=fun w' hS=>by (obtain ⟨z0,_,_,_,_⟩:=hS;unfold execOp;go_simp;first|done|exact rfl))
 refine aQ 5 hS0 ?_
 refine aQ 6 hS0 ?_
 refine aQ 7 hS0 ?_
 refine oU 8 hS0 ?_ (he:=fun w' hS=>by (obtain ⟨_,z1,_,_,_⟩:=hS;unfold execOp;go_simp;first|done|exact rfl))
 refine aQ 9 hS0 ?_
 refine aQ 10 hS0 ?_
 refine oU 11 hS0 ?_ (he:=fun w' hS=>by (obtain ⟨_,_,y3,_,_⟩:=hS;unfold execOp;go_simp;first|done|exact rfl))
 refine aQ 12 hS0 ?_
 refine aQ 13 hS0 ?_
 refine oI 14 rfl (mU (w':=(W.drew.setCell ⟨B,4,none⟩ (.int .i64 tp))) (by unfold execOp;go_simp) (And.intro ⟨(World.cell?_setCell_other _ _ _ _ (by intro e;simp at e)).trans m0,(World.cell?_setCell_other _ _ _ _ (by intro e;simp at e)).trans m1,(World.cell?_setCell_other _ _ _ _ (by intro e;simp at e <;> exact hne e.1.symm)).trans n3,by simpa using hwl,by simpa using hwg⟩ ?_))
 simp only [Act.put,gA,gB,gC,gD,gE,gF]
 refine eZ ?_
 exact bodyPost_end (results_none rfl _ _ _) rfl ⟨rfl,adh.out,by rw [<-HWW.out,oG.out];exact vK ((vK (Gr.refl w) 3 _).drew) 4 _⟩
section
attribute [local go_sem ↓] eO eP eT eu
theorem qP (E:Env) (w:World) (x:T) (t:List T) (o:Nat) (hP:PS E w (x :: t) o) (hx:x.1.k≠0):
  Calls Tryz.prog 137 #[.pointer (some ⟨E.b,0,none⟩)] w fun e w'=>e= .returned (.agg #[.int .i64 30,.int .i64 0,.int .i64 0,.string ⟨#[]⟩,.string (bs x.1.t),.int .i64 x.2,.slice none 0 0])/\Gr (·=E.b) w w'/\PS E w' t o:=by
 have hlt:=hP.lt
 have hgt:=hP.toks.lt
 have HX:=af hx
 clear hx
 go_enter Tryz.func137,Tryz.ntmps137
 go_wp2_with (first
  |(go_at_call 39;refine (iK E _ x t o aO HX.out).mono ?_;rintro e w1 ⟨rfl,hg1,hP1⟩;have hG1:=o8 w hg1;have az:ag w1 w.heap.size 24 Z7:=bU hg1;have mo:=az.lt;obtain ⟨_,adk,adl,adm,adn,ado,adp,adq,adr⟩:=az.av))
 exact aX Tryz.results137 rfl rfl dS ⟨rfl,aJ,aO⟩
theorem Il (n:Nat) (Hn:ku n) (kk:Int) (E:Env) (w:World) (x1:T) (l1:List T) (o:Nat) (g:Tr->List T->R) (r:R) (hP:PS E w (x1 :: l1) o) (hx:x1.1.k≠0) (hq:bnd (go n .unary l1 o) (fun t q=>g (.mk 32 kk 0 [] [] x1.2 [t]) q)=r) (hr:r≠.out):
  Calls Tryz.prog 124 #[.pointer (some ⟨E.b,0,none⟩),.int .i64 kk] w (CZ E w w.heap.size o g r):=by
 have hlt:=hP.lt
 have hgt:=hP.toks.lt
 have HX:=af hx
 have fZ:=af hq
 have HR:=af hr
 clear hx hq hr
 go_enter Tryz.func124,Tryz.ntmps124
 go_wp2_with (first
  |(go_at_call 39;refine (iK E _ x1 l1 o aO HX.out).mono ?_;rintro e w1 ⟨rfl,hg1,hP1⟩;have hG1:=o8 w hg1;have hs1:=hg1.size;(try simp at hs1);have az:ag w1 w.heap.size 24 Z7:=bU hg1;have mo:=az.lt)
  |(go_at_call 105;refine (Hn.unary E _ l1 o _ r aO fZ.out HR.out).mono ?_;rintro e w2 ⟨hg2,⟨a,k,hb,rfl⟩|⟨k2,kJ,m2,p2,t2,a2,bN,A2,c2,l2,rfl,hq2,bI,_,hP2⟩⟩;exact iG (Gr.trans aJ hg2) hb;have hG2:=bQ hG1 hg2;have fJ:=af hq2;clear hq2;have hs2:=hg2.size;(try simp at hs2);have ax:=aD az hg2;have jT:=ax.lt;obtain ⟨_,lJ,lK,lM,lN,lQ,lS,lT,lU⟩:=ax.av;have bI:=aI.mono (lo':=w1.heap.size+0) bI (by simp)))
 exact aX Tryz.results124 rfl rfl dS ⟨aJ,.inr ⟨32,kk,0,[],[],x1.2,[Tr.mk k2 kJ m2 p2 t2 a2 bN],some ⟨w2.heap.size,0,none⟩,1,l2,rfl,fJ.out,aI.mono (lo:=w1.heap.size+0) (aI.oW (k:=k2) (op:=kJ) (m:=m2) (p:=p2) (t:=t2) (a:=a2) (A:=A2) (c:=c2) nS (by simp;omega) (by simp)) (by omega),by simp [cK],aO⟩⟩
theorem EH (n:Nat) (hn:n<=cK) (H:∀m,m<=n->ku m):C0 (n+1) 138 .jW:=by
 intro E w l o g r hP hq hr
 simp only [go,fC,eD,sV,dM] at hq
 have hlt:=hP.lt
 have hgt:=hP.toks.lt
 have HR:=af hr
 have Hn:=H n (Nat.le_refl _)
 clear hr
 obtain ⟨x1,l1,rfl⟩:=hP.cons
 by_cases hm:mark (x1 :: l1)=[116,114,117,101]
 ·rw [if_pos hm] at hq
  have HX:=af (iB hP.good (by rw [hm];simp))
  rw [bH] at hq
  have HM:=af hm
  have fZ:=af hq
  clear hq hm
  go_enter Tryz.func138,Tryz.ntmps138
  go_wp2_with (first
   |(go_at_call 37;refine (aH E _ (x1 :: l1) o aO).mono ?_;rw [HM.out,show bs [116,114,117,101]=⟨#[116,114,117,101]⟩ from rfl];rintro e w1 ⟨rfl,hg1⟩;have hP1:PS E w1 (x1 :: l1) o:=PS.below aO hg1;have hG1:=gX E.b w hg1;have az:ag w1 w.heap.size 24 Z7:=ag.aC bz hg1)
   |(go_at_call 39;refine (iK E _ x1 l1 o aO HX.out).mono ?_;rintro e w2 ⟨rfl,hg2,hP2⟩;have hG2:=bQ hG1 hg2;have ax:=aD az hg2;obtain ⟨_,lJ,lK,lM,lN,lQ,lS,lT,lU⟩:=ax.av))
  exact aX Tryz.results138 rfl rfl dS ⟨aJ,.inr ⟨28,0,1,[],[],x1.2,[],none,0,l1,rfl,fZ.out,aI.nil _ _ 0,by simp,aO⟩⟩
 rw [if_neg hm] at hq
 have ZL:=bC hm
 clear hm
 by_cases hm:mark (x1 :: l1)=[102,97,108,115,101]
 ·rw [if_pos hm] at hq
  have HX:=af (iB hP.good (by rw [hm];simp))
  rw [bH] at hq
  have HM:=af hm
  have fZ:=af hq
  clear hq hm
  go_enter Tryz.func138,Tryz.ntmps138
  go_wp2_with (first
   |(go_at_call 37;refine (aH E _ (x1 :: l1) o aO).mono ?_;rw [HM.out,show bs [102,97,108,115,101]=⟨#[102,97,108,115,101]⟩ from rfl];rintro e w1 ⟨rfl,hg1⟩;have hP1:PS E w1 (x1 :: l1) o:=PS.below aO hg1;have hG1:=gX E.b w hg1;have az:ag w1 w.heap.size 24 Z7:=ag.aC bz hg1)
   |(go_at_call 39;refine (iK E _ x1 l1 o aO HX.out).mono ?_;rintro e w2 ⟨rfl,hg2,hP2⟩;have hG2:=bQ hG1 hg2;have ax:=aD az hg2;obtain ⟨_,lJ,lK,lM,lN,lQ,lS,lT,lU⟩:=ax.av))
  exact aX Tryz.results138 rfl rfl dS ⟨aJ,.inr ⟨28,0,0,[],[],x1.2,[],none,0,l1,rfl,fZ.out,aI.nil _ _ 0,by simp,aO⟩⟩
 rw [if_neg hm] at hq
 have Yh:=bC hm
 clear hm
 by_cases hm:mark (x1 :: l1)=[110,105,108]
 ·rw [if_pos hm] at hq
  have HX:=af (iB hP.good (by rw [hm];simp))
  rw [bH] at hq
  have HM:=af hm
  have fZ:=af hq
  clear hq hm
  go_enter Tryz.func138,Tryz.ntmps138
  go_wp2_with (first
   |(go_at_call 37;refine (aH E _ (x1 :: l1) o aO).mono ?_;rw [HM.out,show bs [110,105,108]=⟨#[110,105,108]⟩ from rfl];rintro e w1 ⟨rfl,hg1⟩;have hP1:PS E w1 (x1 :: l1) o:=PS.below aO hg1;have hG1:=gX E.b w hg1;have az:ag w1 w.heap.size 24 Z7:=ag.aC bz hg1)
   |(go_at_call 39;refine (iK E _ x1 l1 o aO HX.out).mono ?_;rintro e w2 ⟨rfl,hg2,hP2⟩;have hG2:=bQ hG1 hg2;have ax:=aD az hg2;obtain ⟨_,lJ,lK,lM,lN,lQ,lS,lT,lU⟩:=ax.av))
  exact aX Tryz.results138 rfl rfl dS ⟨aJ,.inr ⟨29,0,0,[],[],x1.2,[],none,0,l1,rfl,fZ.out,aI.nil _ _ 0,by simp,aO⟩⟩
 rw [if_neg hm] at hq
 have ac8:=bC hm
 clear hm
 by_cases hm:mark (x1 :: l1)=[40]
 ·rw [if_pos hm] at hq
  have HM:=af hm
  have fZ:=af hq
  clear hq hm
  go_enter Tryz.func138,Tryz.ntmps138
  go_wp2_with (first
   |(go_at_call 37;refine (aH E _ (x1 :: l1) o aO).mono ?_;rw [HM.out,show bs [40]=⟨#[40]⟩ from rfl];rintro e w1 ⟨rfl,hg1⟩;have hP1:PS E w1 (x1 :: l1) o:=PS.below aO hg1;have hG1:=gX E.b w hg1;have hs1:=hg1.size;(try simp at hs1);have az:ag w1 w.heap.size 24 Z7:=ag.aC bz hg1;have mo:=az.lt)
   |(go_at_call 142;refine (Hn.jB E _ (x1 :: l1) o _ r aO fZ.out HR.out).mono ?_;rintro e w2 ⟨hg2,⟨a,k,hb,rfl⟩|⟨k2,kJ,m2,p2,t2,a2,bN,A2,c2,l2,rfl,hq2,bI,hn2,hP2⟩⟩;exact iG (Gr.trans aJ hg2) hb;have hG2:=bQ hG1 hg2;have fJ:=af hq2;clear hq2;have ax:=aD az hg2;obtain ⟨_,lJ,lK,lM,lN,lQ,lS,lT,lU⟩:=ax.av;have bI:=aI.mono (lo':=w1.heap.size+0) bI (by simp)))
  exact aX Tryz.results138 rfl rfl dS ⟨aJ,.inr ⟨k2,kJ,m2,p2,t2,a2,bN,A2,c2,l2,rfl,fJ.out,aI.mono (lo:=w1.heap.size+0) nS (by omega),hn2,aO⟩⟩
 rw [if_neg hm] at hq
 have aiA:=bC hm
 clear hm
 by_cases hm:mark (x1 :: l1)=[91]
 ·rw [if_pos hm] at hq
  have HM:=af hm
  have fZ:=af hq
  clear hq hm
  go_enter Tryz.func138,Tryz.ntmps138
  go_wp2_with (first
   |(go_at_call 37;refine (aH E _ (x1 :: l1) o aO).mono ?_;rw [HM.out,show bs [91]=⟨#[91]⟩ from rfl];rintro e w1 ⟨rfl,hg1⟩;have hP1:PS E w1 (x1 :: l1) o:=PS.below aO hg1;have hG1:=gX E.b w hg1;have hs1:=hg1.size;(try simp at hs1);have az:ag w1 w.heap.size 24 Z7:=ag.aC bz hg1;have mo:=az.lt)
   |(go_at_call 143;refine (Hn.iT E _ (x1 :: l1) o _ r aO fZ.out HR.out).mono ?_;rintro e w2 ⟨hg2,⟨a,k,hb,rfl⟩|⟨k2,kJ,m2,p2,t2,a2,bN,A2,c2,l2,rfl,hq2,bI,hn2,hP2⟩⟩;exact iG (Gr.trans aJ hg2) hb;have hG2:=bQ hG1 hg2;have fJ:=af hq2;clear hq2;have ax:=aD az hg2;obtain ⟨_,lJ,lK,lM,lN,lQ,lS,lT,lU⟩:=ax.av;have bI:=aI.mono (lo':=w1.heap.size+0) bI (by simp)))
  exact aX Tryz.results138 rfl rfl dS ⟨aJ,.inr ⟨k2,kJ,m2,p2,t2,a2,bN,A2,c2,l2,rfl,fJ.out,aI.mono (lo:=w1.heap.size+0) nS (by omega),hn2,aO⟩⟩
 rw [if_neg hm] at hq
 have ads:=bC hm
 clear hm
 by_cases hm:mark (x1 :: l1)=[102,117,110,99]
 ·rw [if_pos hm] at hq
  have HM:=af hm
  have fZ:=af hq
  clear hq hm
  go_enter Tryz.func138,Tryz.ntmps138
  go_wp2_with (first
   |(go_at_call 37;refine (aH E _ (x1 :: l1) o aO).mono ?_;rw [HM.out,show bs [102,117,110,99]=⟨#[102,117,110,99]⟩ from rfl];rintro e w1 ⟨rfl,hg1⟩;have hP1:PS E w1 (x1 :: l1) o:=PS.below aO hg1;have hG1:=gX E.b w hg1;have hs1:=hg1.size;(try simp at hs1);have az:ag w1 w.heap.size 24 Z7:=ag.aC bz hg1;have mo:=az.lt)
   |(go_at_call 144;refine (Hn.iU E _ (x1 :: l1) o _ r aO fZ.out HR.out).mono ?_;rintro e w2 ⟨hg2,⟨a,k,hb,rfl⟩|⟨k2,kJ,m2,p2,t2,a2,bN,A2,c2,l2,rfl,hq2,bI,hn2,hP2⟩⟩;exact iG (Gr.trans aJ hg2) hb;have hG2:=bQ hG1 hg2;have fJ:=af hq2;clear hq2;have ax:=aD az hg2;obtain ⟨_,lJ,lK,lM,lN,lQ,lS,lT,lU⟩:=ax.av;have bI:=aI.mono (lo':=w1.heap.size+0) bI (by simp)))
  exact aX Tryz.results138 rfl rfl dS ⟨aJ,.inr ⟨k2,kJ,m2,p2,t2,a2,bN,A2,c2,l2,rfl,fJ.out,aI.mono (lo:=w1.heap.size+0) nS (by omega),hn2,aO⟩⟩
 rw [if_neg hm] at hq
 have C8:=bC hm
 clear hm
 by_cases hbt:builtin (mark (x1 :: l1))=true
 ·rw [if_pos hbt,bH] at hq
  have hx1:=iB hP.good (by intro e;rw [e] at hbt;exact absurd hbt (by decide))
  have HX:=af hx1
  have fZ:=af hq
  clear hx1 hq
  simp only [builtin,Bool.or_eq_true,decide_eq_true_eq] at hbt
  rcases hbt with (((hm|hm)|hm)|hm)|hm
  ·have HM:=af hm
   clear hm
   go_enter Tryz.func138,Tryz.ntmps138
   go_wp2_with (first
    |(go_at_call 37;refine (aH E _ (x1 :: l1) o aO).mono ?_;rw [HM.out,show bs [108,101,110]=⟨#[108,101,110]⟩ from rfl];rintro e w1 ⟨rfl,hg1⟩;have hP1:PS E w1 (x1 :: l1) o:=PS.below aO hg1;have hG1:=gX E.b w hg1;have az:ag w1 w.heap.size 24 Z7:=ag.aC bz hg1)
    |(go_at_call 137;refine (qP E _ x1 l1 o aO HX.out).mono ?_;rintro e w2 ⟨rfl,hg2,hP2⟩;have hG2:=bQ hG1 hg2;have ax:=aD az hg2;have jT:=ax.lt)
    |(go_at_call 127;refine (Hn.call E _ l1 o (w.heap.size+1) (fun _=>False) _ r 30 0 0 [] x1.1.t x1.2 [] none 0 aO (by omega) (by omega) (by omega) nofun (aI.p (aI.nil _ _ 0) nofun) fZ.out HR.out).mono ?_;rintro e w3 ⟨hg3,⟨a,k,hb,rfl⟩|⟨k3,ng,m3,p3,t3,a3,kC,A3,c3,l3,rfl,hq3,iI,GJ,hP3⟩⟩;exact iG (Gr.trans aJ hg3) hb;have iI:=iI.kid;have hG3:=bQ hG2 hg3;have kE:=af hq3;clear hq3;have aF:=aD ax hg3;obtain ⟨_,vM,wQ,wR,wS,wT,wU,wV,vN⟩:=aF.av))
   exact aX Tryz.results138 rfl rfl dS ⟨aJ,.inr ⟨k3,ng,m3,p3,t3,a3,kC,A3,c3,l3,rfl,kE.out,aI.mono (lo:=w.heap.size+1) nS (by omega),GJ,aO⟩⟩
  ·have HM:=af hm
   clear hm
   go_enter Tryz.func138,Tryz.ntmps138
   go_wp2_with (first
    |(go_at_call 37;refine (aH E _ (x1 :: l1) o aO).mono ?_;rw [HM.out,show bs [97,112,112,101,110,100]=⟨#[97,112,112,101,110,100]⟩ from rfl];rintro e w1 ⟨rfl,hg1⟩;have hP1:PS E w1 (x1 :: l1) o:=PS.below aO hg1;have hG1:=gX E.b w hg1;have az:ag w1 w.heap.size 24 Z7:=ag.aC bz hg1)
    |(go_at_call 137;refine (qP E _ x1 l1 o aO HX.out).mono ?_;rintro e w2 ⟨rfl,hg2,hP2⟩;have hG2:=bQ hG1 hg2;have ax:=aD az hg2;have jT:=ax.lt)
    |(go_at_call 127;refine (Hn.call E _ l1 o (w.heap.size+1) (fun _=>False) _ r 30 0 0 [] x1.1.t x1.2 [] none 0 aO (by omega) (by omega) (by omega) nofun (aI.p (aI.nil _ _ 0) nofun) fZ.out HR.out).mono ?_;rintro e w3 ⟨hg3,⟨a,k,hb,rfl⟩|⟨k3,ng,m3,p3,t3,a3,kC,A3,c3,l3,rfl,hq3,iI,GJ,hP3⟩⟩;exact iG (Gr.trans aJ hg3) hb;have iI:=iI.kid;have hG3:=bQ hG2 hg3;have kE:=af hq3;clear hq3;have aF:=aD ax hg3;obtain ⟨_,vM,wQ,wR,wS,wT,wU,wV,vN⟩:=aF.av))
   exact aX Tryz.results138 rfl rfl dS ⟨aJ,.inr ⟨k3,ng,m3,p3,t3,a3,kC,A3,c3,l3,rfl,kE.out,aI.mono (lo:=w.heap.size+1) nS (by omega),GJ,aO⟩⟩
  ·have HM:=af hm
   clear hm
   go_enter Tryz.func138,Tryz.ntmps138
   go_wp2_with (first
    |(go_at_call 37;refine (aH E _ (x1 :: l1) o aO).mono ?_;rw [HM.out,show bs [112,97,110,105,99]=⟨#[112,97,110,105,99]⟩ from rfl];rintro e w1 ⟨rfl,hg1⟩;have hP1:PS E w1 (x1 :: l1) o:=PS.below aO hg1;have hG1:=gX E.b w hg1;have az:ag w1 w.heap.size 24 Z7:=ag.aC bz hg1)
    |(go_at_call 137;refine (qP E _ x1 l1 o aO HX.out).mono ?_;rintro e w2 ⟨rfl,hg2,hP2⟩;have hG2:=bQ hG1 hg2;have ax:=aD az hg2;have jT:=ax.lt)
    |(go_at_call 127;refine (Hn.call E _ l1 o (w.heap.size+1) (fun _=>False) _ r 30 0 0 [] x1.1.t x1.2 [] none 0 aO (by omega) (by omega) (by omega) nofun (aI.p (aI.nil _ _ 0) nofun) fZ.out HR.out).mono ?_;rintro e w3 ⟨hg3,⟨a,k,hb,rfl⟩|⟨k3,ng,m3,p3,t3,a3,kC,A3,c3,l3,rfl,hq3,iI,GJ,hP3⟩⟩;exact iG (Gr.trans aJ hg3) hb;have iI:=iI.kid;have hG3:=bQ hG2 hg3;have kE:=af hq3;clear hq3;have aF:=aD ax hg3;obtain ⟨_,vM,wQ,wR,wS,wT,wU,wV,vN⟩:=aF.av))
   exact aX Tryz.results138 rfl rfl dS ⟨aJ,.inr ⟨k3,ng,m3,p3,t3,a3,kC,A3,c3,l3,rfl,kE.out,aI.mono (lo:=w.heap.size+1) nS (by omega),GJ,aO⟩⟩
  ·have HM:=af hm
   clear hm
   go_enter Tryz.func138,Tryz.ntmps138
   go_wp2_with (first
    |(go_at_call 37;refine (aH E _ (x1 :: l1) o aO).mono ?_;rw [HM.out,show bs [112,117,116]=⟨#[112,117,116]⟩ from rfl];rintro e w1 ⟨rfl,hg1⟩;have hP1:PS E w1 (x1 :: l1) o:=PS.below aO hg1;have hG1:=gX E.b w hg1;have az:ag w1 w.heap.size 24 Z7:=ag.aC bz hg1)
    |(go_at_call 137;refine (qP E _ x1 l1 o aO HX.out).mono ?_;rintro e w2 ⟨rfl,hg2,hP2⟩;have hG2:=bQ hG1 hg2;have ax:=aD az hg2;have jT:=ax.lt)
    |(go_at_call 127;refine (Hn.call E _ l1 o (w.heap.size+1) (fun _=>False) _ r 30 0 0 [] x1.1.t x1.2 [] none 0 aO (by omega) (by omega) (by omega) nofun (aI.p (aI.nil _ _ 0) nofun) fZ.out HR.out).mono ?_;rintro e w3 ⟨hg3,⟨a,k,hb,rfl⟩|⟨k3,ng,m3,p3,t3,a3,kC,A3,c3,l3,rfl,hq3,iI,GJ,hP3⟩⟩;exact iG (Gr.trans aJ hg3) hb;have iI:=iI.kid;have hG3:=bQ hG2 hg3;have kE:=af hq3;clear hq3;have aF:=aD ax hg3;obtain ⟨_,vM,wQ,wR,wS,wT,wU,wV,vN⟩:=aF.av))
   exact aX Tryz.results138 rfl rfl dS ⟨aJ,.inr ⟨k3,ng,m3,p3,t3,a3,kC,A3,c3,l3,rfl,kE.out,aI.mono (lo:=w.heap.size+1) nS (by omega),GJ,aO⟩⟩
  ·have HM:=af hm
   clear hm
   go_enter Tryz.func138,Tryz.ntmps138
   go_wp2_with (first
    |(go_at_call 37;refine (aH E _ (x1 :: l1) o aO).mono ?_;rw [HM.out,show bs [103,101,116]=⟨#[103,101,116]⟩ from rfl];rintro e w1 ⟨rfl,hg1⟩;have hP1:PS E w1 (x1 :: l1) o:=PS.below aO hg1;have hG1:=gX E.b w hg1;have az:ag w1 w.heap.size 24 Z7:=ag.aC bz hg1)
    |(go_at_call 137;refine (qP E _ x1 l1 o aO HX.out).mono ?_;rintro e w2 ⟨rfl,hg2,hP2⟩;have hG2:=bQ hG1 hg2;have ax:=aD az hg2;have jT:=ax.lt)
    |(go_at_call 127;refine (Hn.call E _ l1 o (w.heap.size+1) (fun _=>False) _ r 30 0 0 [] x1.1.t x1.2 [] none 0 aO (by omega) (by omega) (by omega) nofun (aI.p (aI.nil _ _ 0) nofun) fZ.out HR.out).mono ?_;rintro e w3 ⟨hg3,⟨a,k,hb,rfl⟩|⟨k3,ng,m3,p3,t3,a3,kC,A3,c3,l3,rfl,hq3,iI,GJ,hP3⟩⟩;exact iG (Gr.trans aJ hg3) hb;have iI:=iI.kid;have hG3:=bQ hG2 hg3;have kE:=af hq3;clear hq3;have aF:=aD ax hg3;obtain ⟨_,vM,wQ,wR,wS,wT,wU,wV,vN⟩:=aF.av))
   exact aX Tryz.results138 rfl rfl dS ⟨aJ,.inr ⟨k3,ng,m3,p3,t3,a3,kC,A3,c3,l3,rfl,kE.out,aI.mono (lo:=w.heap.size+1) nS (by omega),GJ,aO⟩⟩
 rw [if_neg hbt] at hq
 simp only [builtin,Bool.or_eq_true,decide_eq_true_eq,not_or] at hbt
 obtain ⟨⟨⟨⟨hb1,hb2⟩,hb3⟩,hb4⟩,hb5⟩:=hbt
 have hc1:=bC hb1
 have hc2:=bC hb2
 have hc3:=bC hb3
 have hc4:=bC hb4
 have Yf:=bC hb5
 clear hb1 hb2 hb3 hb4 hb5
 by_cases hm:mark (x1 :: l1)=[109,97,107,101]
 ·rw [if_pos hm] at hq
  have hmx:mark (x1 :: l1)≠[]:=by rw [hm];simp
  have HMX:=af hmx
  have HM:=af hm
  have fZ:=af hq
  clear hq hm hmx
  go_enter Tryz.func138,Tryz.ntmps138
  go_wp2_with (first
   |(go_at_call 37;refine (aH E _ (x1 :: l1) o aO).mono ?_;rw [HM.out,show bs [109,97,107,101]=⟨#[109,97,107,101]⟩ from rfl];rintro e w1 ⟨rfl,hg1⟩;have hP1:PS E w1 (x1 :: l1) o:=PS.below aO hg1;have hG1:=gX E.b w hg1;have hs1:=hg1.size;(try simp at hs1);have az:ag w1 w.heap.size 24 Z7:=ag.aC bz hg1;have mo:=az.lt)
   |(go_at_call 145;refine (Hn.kR E _ (x1 :: l1) o _ r HMX.out aO fZ.out HR.out).mono ?_;rintro e w2 ⟨hg2,⟨a,k,hb,rfl⟩|⟨k2,kJ,m2,p2,t2,a2,bN,A2,c2,l2,rfl,hq2,bI,hn2,hP2⟩⟩;exact iG (Gr.trans aJ hg2) hb;have hG2:=bQ hG1 hg2;have fJ:=af hq2;clear hq2;have ax:=aD az hg2;obtain ⟨_,lJ,lK,lM,lN,lQ,lS,lT,lU⟩:=ax.av;have bI:=aI.mono (lo':=w1.heap.size+0) bI (by simp)))
  exact aX Tryz.results138 rfl rfl dS ⟨aJ,.inr ⟨k2,kJ,m2,p2,t2,a2,bN,A2,c2,l2,rfl,fJ.out,aI.mono (lo:=w1.heap.size+0) nS (by omega),hn2,aO⟩⟩
 rw [if_neg hm] at hq
 have ZM:=bC hm
 clear hm
 rw [rF] at hq
 have fZ:=af hq
 clear hq
 go_enter Tryz.func138,Tryz.ntmps138
 go_wp2_with (first
  |(go_at_call 37;refine (aH E _ (x1 :: l1) o aO).mono ?_;rintro e w1 ⟨rfl,hg1⟩;have hP1:PS E w1 (x1 :: l1) o:=PS.below aO hg1;have hG1:=gX E.b w hg1;have az:ag w1 w.heap.size 24 Z7:=ag.aC bz hg1)
  |(go_at_call 38;refine (sW E _ x1 l1 o aO).mono ?_;rintro e w9 ⟨rfl,gP⟩))
 refine And.intro rfl ?_
 exact ⟨Gr.trans hG1 (Gr.of_below gP),.inl ⟨_,_,fZ.out.symm,rfl⟩⟩
theorem abI (ρ:Operand->Value) (w:World) (dst:Option Tmp) (x:Operand) (ty:TypeId) (pos:String) (after:Array Edge) (g n c i:Nat) (y:Operand) (hx:ρ x= .slice (some ⟨g,0,none⟩) n c) (hy:ρ y= .int .i64 i) (hi:i < n):(execOp ρ { dst:=dst,op:=.indexAddr 34 x y,type:=ty,pos:=pos,after:=after,guard:=none }).run Tryz.prog w= .ok (.value (.pointer (some ⟨g,i*4,none⟩))) w:=by
 have h0:(0:Int)<=(i:Int):=by omega
 have h1:(i:Int) < (n:Int):=by omega
 unfold execOp;simp only [hx,hy];go_simp
theorem YN {Q:Exit->Act->World->Prop} {K:Act->World->Prop} {w:World} {a:Act} {ty:TypeId} {pos:String} {after:Array Edge} (x y:Operand) {z:Nat} {u0 u1 u2 u3:Value} (k n:Int) (t:List UInt8) (at_:Nat)
  (hx:a.eval x= .pointer (some ⟨z,0,none⟩)) (hy:a.eval y= .agg #[.int .i64 k,.string (bs t),.int .i64 n,.int .i64 at_]) (hb:ag w z 53 #[u0,u1,u2,u3])
  (hk:∀w',ag w' z 53 (T4 k (bs t) n at_)->Gr (·=z) w w'->K (a.put none undef) w'):
  ({ dst:=none,op:=.store 53 x y,type:=ty,pos:=pos,after:=after,guard:=none }:Oper).wp Tryz.prog a w K Q:=by
 obtain ⟨_,s0,s1,s2,s3,sf⟩:=hb.jX
 have h4:=hb.four (.int .i64 k) (.string (bs t)) (.int .i64 n) (.int .i64 at_)
 have hg:Gr (·=z) w ((((w.setCell ⟨z,0,none⟩ (.int .i64 k)).setCell ⟨z,1,none⟩ (.string (bs t))).setCell ⟨z,2,none⟩ (.int .i64 n)).setCell ⟨z,3,none⟩ (.int .i64 at_)):=
  Gr.setCell (S:=(·=z)) (p:=⟨z,3,none⟩) (Gr.setCell (S:=(·=z)) (p:=⟨z,2,none⟩) (Gr.setCell (S:=(·=z)) (p:=⟨z,1,none⟩) (Gr.setCell (S:=(·=z)) (p:=⟨z,0,none⟩) (Gr.refl w) (.inr rfl) _) (.inr rfl) _) (.inr rfl) _) (.inr rfl) _
 have hK:=hk _ h4 hg
 have:(execOp a.eval { dst:=none,op:=.store 53 x y,type:=ty,pos:=pos,after:=after,guard:=none }).run Tryz.prog w= .ok .skip ((((w.setCell ⟨z,0,none⟩ (.int .i64 k)).setCell ⟨z,1,none⟩ (.string (bs t))).setCell ⟨z,2,none⟩ (.int .i64 n)).setCell ⟨z,3,none⟩ (.int .i64 at_)):=by
  clear hk h4 hg hK hb
  unfold execOp;simp only [hx,hy];go_simp
 unfold Oper.wp
 rw [this]
 exact hK
theorem C9 (E:Env) (w:World) (l:List T) (o:Nat) (h:PS E w l o):
  Calls Tryz.prog 111 #[.pointer (some ⟨E.b,0,none⟩)] w fun e w'=>e= .returned (.bool (defines l))/\Below w.heap.size w w':=by
 obtain ⟨x,r,rfl⟩:=h.cons
 have hlt:=h.lt
 by_cases h1:x.1.k=1
 ·obtain ⟨y,q,rfl⟩:∃y q,r=y :: q:=by
   cases r with
   |nil=>exact absurd h.good (by rw [Cb,h1];simp [good])
   |cons y q=>exact ⟨y,q,rfl⟩
  have adt:y :: q <:+E.ts:=(List.suffix_cons x _).trans h.Nn
  have hlen:=h.len
  obtain ⟨j,hj⟩:=aS (E.ts.length - (x :: y :: q).length)
  have hle:=h.Nn.length_le
  have hj2:j+1=E.ts.length - (q.length+1):=by simp at hj hle;omega
  have hjl:j+1 < E.ts.length:=by simp at hle;omega
  have hh:E.ts[j+1]? =some y:=by
   obtain ⟨p,hp⟩:=adt
   rw [hj2,<-hp]
   simp
  have htl:=h.toks.lt
  obtain ⟨q0,q1,q2,q3⟩:=h.toks.cell (j+1) _ hh
  have hbl:=h.blk
  have hne:=h.ne
  unfold psC at hbl
  rw [hj] at hbl
  have hd:defines (x :: y :: q)=(decide (y.1.k=5) && decide (y.1.t=[58,61])):=by simp [defines,h1]
  rw [hd]
  have H:=af h
  have hk:(x.1.k != 1)=false:=by rw [h1];rfl
  clear h h1 hd hh adt hj hj2 hle
  obtain ⟨N,hN⟩:=aS E.ts.length
  rw [hN] at hbl hlen hjl
  obtain ⟨⟨yk,yt,yn⟩,yp⟩:=y
  dsimp only at q0 q1 q2 q3 |-
  have j1:(j:Int)<=8193:=by omega
  have jw:IntKind.i64.wrap ((j:Int)+1)=((j+1:Nat):Int):=by rw [IntWalk.i64_in _ (by omega)];omega
  clear hN
  go_enter Tryz.func111,Tryz.ntmps111
  go_wp2_with (go_at_call 21;refine (iO E _ _ _ _ H.out).mono ?_;rintro e w1 ⟨rfl,hb⟩)
  have r0:=(hb.cell (p:=⟨E.b,0,none⟩) hlt).trans (hbl.cell 0)
  have r1:=(hb.cell (p:=⟨E.b,1,none⟩) hlt).trans (hbl.cell 1)
  have r2:=(hb.cell (p:=⟨E.g,(j+1)*4,none⟩) htl).trans q0
  have r3:=(hb.cell (p:=⟨E.g,(j+1)*4+1,none⟩) htl).trans q1
  have r4:=(hb.cell (p:=⟨E.g,(j+1)*4+2,none⟩) htl).trans q2
  have r5:=(hb.cell (p:=⟨E.g,(j+1)*4+3,none⟩) htl).trans q3
  simp only [List.getElem?_toArray,List.getElem?_cons_zero,List.getElem?_cons_succ] at r0 r1
  refine wp_region_held_drew (S:=fun W=>W.cell? ⟨E.b,0,none⟩=some (.slice (some ⟨E.g,0,none⟩) N E.c)/\W.cell? ⟨E.b,1,none⟩=some (.int .i64 (j:Int))/\W.cell? ⟨E.g,(j+1)*4,none⟩=some (.int .i64 yk)/\W.cell? ⟨E.g,(j+1)*4+1,none⟩=some (.string (bs yt))/\W.cell? ⟨E.g,(j+1)*4+2,none⟩=some (.int .i64 yn)/\W.cell? ⟨E.g,(j+1)*4+3,none⟩=some (.int .i64 (yp:Int))) (by kernel_rfl) ⟨r0,r1,r2,r3,r4,r5⟩ (fun hS0=>?_)
  refine aQ 0 hS0 ?_
  refine aQ 1 hS0 ?_
  refine aQ 2 hS0 ?_
  refine aQ 3 hS0 ?_
  refine oU 4 hS0 ?_ (he:=fun w' hS=>by (obtain ⟨s0,_,_,_,_,_⟩:=hS;unfold execOp;go_simp;first|done|exact rfl))
  refine aQ 5 hS0 ?_
  refine aQ 6 hS0 ?_
  refine aQ 7 hS0 ?_
  refine aQ 8 hS0 ?_
  refine oU 9 hS0 ?_ (he:=fun w' hS=>by (obtain ⟨_,s1,_,_,_,_⟩:=hS;unfold execOp;go_simp;first|done|exact rfl))
  refine aQ 10 hS0 ?_
  refine wpAnyH_take (i:=11) (v:=.pointer (some ⟨E.g,(j+1)*4,none⟩)) rfl (by kernel_rfl) (by kernel_rfl) (by kernel_rfl) (fun _ _ _ h=>h) (Or.inl ⟨rfl,fun w' hS=>by (exact abI _ _ _ _ _ _ _ E.g N E.c (j+1) _ rfl rfl hjl)⟩) hS0 ?_
  simp only [Act.put,gA,gB,gC,gD,gE,gF]
  refine oU 12 hS0 ?_ (he:=fun w' hS=>by (obtain ⟨_,_,s2,s3,s4,s5⟩:=hS;unfold execOp;go_simp;first|done|exact rfl))
  have hb1:E.b < w1.heap.size:=Nat.lt_of_lt_of_le hlt hb.size
  have hg1:E.g < w1.heap.size:=Nat.lt_of_lt_of_le htl hb.size
  have hA:=(Below.refl _ w1.drew).alloc (Nat.le_refl _) (.cells #[.int .i64 0,.string ⟨#[]⟩,.int .i64 0,.int .i64 0] 53)
  refine oI 13 rfl (aY (v:=.pointer (some ⟨w1.heap.size,0,none⟩)) (w':=w1.drew.alloc (.cells #[.int .i64 0,.string ⟨#[]⟩,.int .i64 0,.int .i64 0] 53)) (by unfold execOp;go_simp) (And.intro ⟨(hA.cell (p:=⟨E.b,0,none⟩) hb1).trans r0,(hA.cell (p:=⟨E.b,1,none⟩) hb1).trans r1,(hA.cell (p:=⟨E.g,(j+1)*4,none⟩) hg1).trans r2,(hA.cell (p:=⟨E.g,(j+1)*4+1,none⟩) hg1).trans r3,(hA.cell (p:=⟨E.g,(j+1)*4+2,none⟩) hg1).trans r4,(hA.cell (p:=⟨E.g,(j+1)*4+3,none⟩) hg1).trans r5⟩ ?_))
  simp only [Act.put,gA,gB,gC,gD,gE,gF]
  refine oI 14 rfl (YN _ _ yk yn yt yp rfl rfl (ag.new w1.drew _ _) fun w9 hz9 gP=>And.intro ⟨(gP.cell (p:=⟨E.b,0,none⟩) (Nat.lt_of_lt_of_le hb1 hA.size) (Nat.ne_of_lt hb1)).trans ((hA.cell (p:=⟨E.b,0,none⟩) hb1).trans r0),(gP.cell (p:=⟨E.b,1,none⟩) (Nat.lt_of_lt_of_le hb1 hA.size) (Nat.ne_of_lt hb1)).trans ((hA.cell (p:=⟨E.b,1,none⟩) hb1).trans r1),(gP.cell (p:=⟨E.g,(j+1)*4,none⟩) (Nat.lt_of_lt_of_le hg1 hA.size) (Nat.ne_of_lt hg1)).trans ((hA.cell (p:=⟨E.g,(j+1)*4,none⟩) hg1).trans r2),(gP.cell (p:=⟨E.g,(j+1)*4+1,none⟩) (Nat.lt_of_lt_of_le hg1 hA.size) (Nat.ne_of_lt hg1)).trans ((hA.cell (p:=⟨E.g,(j+1)*4+1,none⟩) hg1).trans r3),(gP.cell (p:=⟨E.g,(j+1)*4+2,none⟩) (Nat.lt_of_lt_of_le hg1 hA.size) (Nat.ne_of_lt hg1)).trans ((hA.cell (p:=⟨E.g,(j+1)*4+2,none⟩) hg1).trans r4),(gP.cell (p:=⟨E.g,(j+1)*4+3,none⟩) (Nat.lt_of_lt_of_le hg1 hA.size) (Nat.ne_of_lt hg1)).trans ((hA.cell (p:=⟨E.g,(j+1)*4+3,none⟩) hg1).trans r5)⟩ ?_)
  refine eZ ?_
  simp only [Act.put,gA,gB,gC,gD,gE,gF]
  have hB9:Below w.heap.size w w9:=Gr.below (((Gr.of_below hb (S:=fun _=>False)).drew.alloc _).wide gP (fun n hn hs=>by
   have h1:n=w1.heap.size:=hs
   have:=hb.size
   omega)) (fun _ _ h=>h)
  obtain ⟨_,z0,z1,_⟩:=hz9.jX
  clear hz9 gP hA hS0 r0 r1 r2 r3 r4 r5 q0 q1 q2 q3 hbl jw
  by_cases h5:yk=5
  ·subst h5
   by_cases ht:yt=[58,61]
   ·subst ht
    go_wp2
    go_ret
    refine ⟨?_,hB9⟩
    show Ending.returned (.bool ((bs [58,61]).toList == [58,61]))=_
    rw [iC]
    rfl
   ·have hmn:=bC ht
    have HT:=af ht
    clear ht
    go_wp2
    go_ret
    exact ⟨by have:=HT.out;simp [this],hB9⟩
  ·have hk5:(yk == 5)=false:=by simpa using h5
   have H5:=af h5
   clear h5
   go_wp2
   go_ret
   exact ⟨by have:=H5.out;simp [this],hB9⟩
 ·have hd:defines (x :: r)=false:=by
   cases r with
   |nil=>rfl
   |cons y q=>simp [defines,h1]
  rw [hd]
  have hk:(x.1.k != 1)=true:=by simpa using h1
  have H:=af h
  clear h h1 hd
  go_enter Tryz.func111,Tryz.ntmps111
  go_wp2_with (go_at_call 21;refine (iO E _ _ _ _ (by first|exact PS.alloc H.out _|exact H.out)).mono ?_;rintro e w1 ⟨rfl,hb⟩)
  go_ret
  exact ⟨rfl,by first|exact hb|exact ((Below.refl _ _).alloc (Nat.le_refl _) _).trans (hb.mono (by simp))⟩
theorem NR (n:Nat) (hn:n<=cK) (H:∀m,m<=n->ku m):C0 (n+1) 93 .stat:=by
 intro E w l o g r hP hq hr
 simp only [go,eD] at hq
 have hlt:=hP.lt
 have hgt:=hP.toks.lt
 have hne:=hP.ne
 have HR:=af hr
 have Hn:=H n (Nat.le_refl _)
 clear hr
 by_cases hm:mark l=[118,97,114]
 ·rw [if_pos hm] at hq
  have HM:=af hm
  have fZ:=af hq
  clear hq hm
  go_enter Tryz.func93,Tryz.ntmps93
  go_wp2_with (first
   |(go_at_call 37;refine (aH E _ l o aO).mono ?_;rw [HM.out,show bs [118,97,114]=⟨#[118,97,114]⟩ from rfl];rintro e w1 ⟨rfl,hg1⟩;have hP1:PS E w1 l o:=PS.below aO hg1;have hG1:=gX E.b w hg1;have hs1:=hg1.size;(try simp at hs1);have az:ag w1 w.heap.size 24 Z7:=ag.aC bz hg1;have mo:=az.lt)
   |(go_at_call 42;refine (Hn.dh E _ l o _ r aO fZ.out HR.out).mono ?_;rintro e w2 ⟨hg2,⟨a,k,hb,rfl⟩|⟨k2,kJ,m2,p2,t2,a2,bN,A2,c2,l2,rfl,hq2,bI,hn2,hP2⟩⟩;exact iG (Gr.trans aJ hg2) hb;have hG2:=bQ hG1 hg2;have fJ:=af hq2;clear hq2;have ax:=aD az hg2;obtain ⟨_,lJ,lK,lM,lN,lQ,lS,lT,lU⟩:=ax.av;have bI:=aI.mono (lo':=w1.heap.size+0) bI (by simp)))
  exact aX Tryz.results93 rfl rfl dS ⟨aJ,.inr ⟨k2,kJ,m2,p2,t2,a2,bN,A2,c2,l2,rfl,fJ.out,aI.mono (lo:=w1.heap.size+0) nS (by omega),hn2,aO⟩⟩
 rw [if_neg hm] at hq
 have Sr:=bC hm
 clear hm
 by_cases hm:mark l=[105,102]
 ·rw [if_pos hm] at hq
  have HM:=af hm
  have fZ:=af hq
  clear hq hm
  go_enter Tryz.func93,Tryz.ntmps93
  go_wp2_with (first
   |(go_at_call 37;refine (aH E _ l o aO).mono ?_;rw [HM.out,show bs [105,102]=⟨#[105,102]⟩ from rfl];rintro e w1 ⟨rfl,hg1⟩;have hP1:PS E w1 l o:=PS.below aO hg1;have hG1:=gX E.b w hg1;have hs1:=hg1.size;(try simp at hs1);have az:ag w1 w.heap.size 24 Z7:=ag.aC bz hg1;have mo:=az.lt)
   |(go_at_call 107;refine (Hn.branch E _ l o _ r aO fZ.out HR.out).mono ?_;rintro e w2 ⟨hg2,⟨a,k,hb,rfl⟩|⟨k2,kJ,m2,p2,t2,a2,bN,A2,c2,l2,rfl,hq2,bI,hn2,hP2⟩⟩;exact iG (Gr.trans aJ hg2) hb;have hG2:=bQ hG1 hg2;have fJ:=af hq2;clear hq2;have ax:=aD az hg2;obtain ⟨_,lJ,lK,lM,lN,lQ,lS,lT,lU⟩:=ax.av;have bI:=aI.mono (lo':=w1.heap.size+0) bI (by simp)))
  exact aX Tryz.results93 rfl rfl dS ⟨aJ,.inr ⟨k2,kJ,m2,p2,t2,a2,bN,A2,c2,l2,rfl,fJ.out,aI.mono (lo:=w1.heap.size+0) nS (by omega),hn2,aO⟩⟩
 rw [if_neg hm] at hq
 have YO:=bC hm
 clear hm
 by_cases hm:mark l=[102,111,114]
 ·rw [if_pos hm] at hq
  have HM:=af hm
  have fZ:=af hq
  clear hq hm
  go_enter Tryz.func93,Tryz.ntmps93
  go_wp2_with (first
   |(go_at_call 37;refine (aH E _ l o aO).mono ?_;rw [HM.out,show bs [102,111,114]=⟨#[102,111,114]⟩ from rfl];rintro e w1 ⟨rfl,hg1⟩;have hP1:PS E w1 l o:=PS.below aO hg1;have hG1:=gX E.b w hg1;have hs1:=hg1.size;(try simp at hs1);have az:ag w1 w.heap.size 24 Z7:=ag.aC bz hg1;have mo:=az.lt)
   |(go_at_call 108;refine (Hn.loop E _ l o _ r aO fZ.out HR.out).mono ?_;rintro e w2 ⟨hg2,⟨a,k,hb,rfl⟩|⟨k2,kJ,m2,p2,t2,a2,bN,A2,c2,l2,rfl,hq2,bI,hn2,hP2⟩⟩;exact iG (Gr.trans aJ hg2) hb;have hG2:=bQ hG1 hg2;have fJ:=af hq2;clear hq2;have ax:=aD az hg2;obtain ⟨_,lJ,lK,lM,lN,lQ,lS,lT,lU⟩:=ax.av;have bI:=aI.mono (lo':=w1.heap.size+0) bI (by simp)))
  exact aX Tryz.results93 rfl rfl dS ⟨aJ,.inr ⟨k2,kJ,m2,p2,t2,a2,bN,A2,c2,l2,rfl,fJ.out,aI.mono (lo:=w1.heap.size+0) nS (by omega),hn2,aO⟩⟩
 rw [if_neg hm] at hq
 have ac9:=bC hm
 clear hm
 by_cases hm:mark l=[98,114,101,97,107]
 ·rw [if_pos hm] at hq
  have hmx:mark l≠[]:=by rw [hm];simp
  have HMX:=af hmx
  clear hmx
  have HM:=af hm
  have fZ:=af hq
  clear hq hm
  go_enter Tryz.func93,Tryz.ntmps93
  go_wp2_with (first
   |(go_at_call 37;refine (aH E _ l o aO).mono ?_;rw [HM.out,show bs [98,114,101,97,107]=⟨#[98,114,101,97,107]⟩ from rfl];rintro e w1 ⟨rfl,hg1⟩;have hP1:PS E w1 l o:=PS.below aO hg1;have hG1:=gX E.b w hg1;have hs1:=hg1.size;(try simp at hs1);have az:ag w1 w.heap.size 24 Z7:=ag.aC bz hg1;have mo:=az.lt)
   |(go_at_call 109;refine (Hn.leap 23 E _ l o _ r HMX.out aO fZ.out HR.out).mono ?_;rintro e w2 ⟨hg2,⟨a,k,hb,rfl⟩|⟨k2,kJ,m2,p2,t2,a2,bN,A2,c2,l2,rfl,hq2,bI,hn2,hP2⟩⟩;exact iG (Gr.trans aJ hg2) hb;have hG2:=bQ hG1 hg2;have fJ:=af hq2;clear hq2;have ax:=aD az hg2;obtain ⟨_,lJ,lK,lM,lN,lQ,lS,lT,lU⟩:=ax.av;have bI:=aI.mono (lo':=w1.heap.size+0) bI (by simp)))
  exact aX Tryz.results93 rfl rfl dS ⟨aJ,.inr ⟨k2,kJ,m2,p2,t2,a2,bN,A2,c2,l2,rfl,fJ.out,aI.mono (lo:=w1.heap.size+0) nS (by omega),hn2,aO⟩⟩
 rw [if_neg hm] at hq
 have Yi:=bC hm
 clear hm
 by_cases hm:mark l=[99,111,110,116,105,110,117,101]
 ·rw [if_pos hm] at hq
  have hmx:mark l≠[]:=by rw [hm];simp
  have HMX:=af hmx
  clear hmx
  have HM:=af hm
  have fZ:=af hq
  clear hq hm
  go_enter Tryz.func93,Tryz.ntmps93
  go_wp2_with (first
   |(go_at_call 37;refine (aH E _ l o aO).mono ?_;rw [HM.out,show bs [99,111,110,116,105,110,117,101]=⟨#[99,111,110,116,105,110,117,101]⟩ from rfl];rintro e w1 ⟨rfl,hg1⟩;have hP1:PS E w1 l o:=PS.below aO hg1;have hG1:=gX E.b w hg1;have hs1:=hg1.size;(try simp at hs1);have az:ag w1 w.heap.size 24 Z7:=ag.aC bz hg1;have mo:=az.lt)
   |(go_at_call 109;refine (Hn.leap 24 E _ l o _ r HMX.out aO fZ.out HR.out).mono ?_;rintro e w2 ⟨hg2,⟨a,k,hb,rfl⟩|⟨k2,kJ,m2,p2,t2,a2,bN,A2,c2,l2,rfl,hq2,bI,hn2,hP2⟩⟩;exact iG (Gr.trans aJ hg2) hb;have hG2:=bQ hG1 hg2;have fJ:=af hq2;clear hq2;have ax:=aD az hg2;obtain ⟨_,lJ,lK,lM,lN,lQ,lS,lT,lU⟩:=ax.av;have bI:=aI.mono (lo':=w1.heap.size+0) bI (by simp)))
  exact aX Tryz.results93 rfl rfl dS ⟨aJ,.inr ⟨k2,kJ,m2,p2,t2,a2,bN,A2,c2,l2,rfl,fJ.out,aI.mono (lo:=w1.heap.size+0) nS (by omega),hn2,aO⟩⟩
 rw [if_neg hm] at hq
 have Ns:=bC hm
 clear hm
 by_cases hm:mark l=[114,101,116,117,114,110]
 ·rw [if_pos hm] at hq
  have HM:=af hm
  have fZ:=af hq
  clear hq hm
  go_enter Tryz.func93,Tryz.ntmps93
  go_wp2_with (first
   |(go_at_call 37;refine (aH E _ l o aO).mono ?_;rw [HM.out,show bs [114,101,116,117,114,110]=⟨#[114,101,116,117,114,110]⟩ from rfl];rintro e w1 ⟨rfl,hg1⟩;have hP1:PS E w1 l o:=PS.below aO hg1;have hG1:=gX E.b w hg1;have hs1:=hg1.size;(try simp at hs1);have az:ag w1 w.heap.size 24 Z7:=ag.aC bz hg1;have mo:=az.lt)
   |(go_at_call 110;refine (Hn.nD E _ l o _ r aO fZ.out HR.out).mono ?_;rintro e w2 ⟨hg2,⟨a,k,hb,rfl⟩|⟨k2,kJ,m2,p2,t2,a2,bN,A2,c2,l2,rfl,hq2,bI,hn2,hP2⟩⟩;exact iG (Gr.trans aJ hg2) hb;have hG2:=bQ hG1 hg2;have fJ:=af hq2;clear hq2;have ax:=aD az hg2;obtain ⟨_,lJ,lK,lM,lN,lQ,lS,lT,lU⟩:=ax.av;have bI:=aI.mono (lo':=w1.heap.size+0) bI (by simp)))
  exact aX Tryz.results93 rfl rfl dS ⟨aJ,.inr ⟨k2,kJ,m2,p2,t2,a2,bN,A2,c2,l2,rfl,fJ.out,aI.mono (lo:=w1.heap.size+0) nS (by omega),hn2,aO⟩⟩
 rw [if_neg hm] at hq
 have UA:=bC hm
 clear hm
 by_cases hm:mark l=[123]
 ·rw [if_pos hm] at hq
  have HM:=af hm
  have fZ:=af hq
  clear hq hm
  go_enter Tryz.func93,Tryz.ntmps93
  go_wp2_with (first
   |(go_at_call 37;refine (aH E _ l o aO).mono ?_;rw [HM.out,show bs [123]=⟨#[123]⟩ from rfl];rintro e w1 ⟨rfl,hg1⟩;have hP1:PS E w1 l o:=PS.below aO hg1;have hG1:=gX E.b w hg1;have hs1:=hg1.size;(try simp at hs1);have az:ag w1 w.heap.size 24 Z7:=ag.aC bz hg1;have mo:=az.lt)
   |(go_at_call 72;refine (Hn.block E _ l o _ r aO fZ.out HR.out).mono ?_;rintro e w2 ⟨hg2,⟨a,k,hb,rfl⟩|⟨k2,kJ,m2,p2,t2,a2,bN,A2,c2,l2,rfl,hq2,bI,hn2,hP2⟩⟩;exact iG (Gr.trans aJ hg2) hb;have hG2:=bQ hG1 hg2;have fJ:=af hq2;clear hq2;have ax:=aD az hg2;obtain ⟨_,lJ,lK,lM,lN,lQ,lS,lT,lU⟩:=ax.av;have bI:=aI.mono (lo':=w1.heap.size+0) bI (by simp)))
  exact aX Tryz.results93 rfl rfl dS ⟨aJ,.inr ⟨k2,kJ,m2,p2,t2,a2,bN,A2,c2,l2,rfl,fJ.out,aI.mono (lo:=w1.heap.size+0) nS (by omega),hn2,aO⟩⟩
 rw [if_neg hm] at hq
 have aiB:=bC hm
 clear hm
 by_cases hd:defines l=true
 ·rw [if_pos hd] at hq
  have HD:=af hd
  have fZ:=af hq
  clear hq hd
  go_enter Tryz.func93,Tryz.ntmps93
  go_wp2_with (first
   |(go_at_call 37;refine (aH E _ l o aO).mono ?_;rintro e w1 ⟨rfl,hg1⟩;have hP1:PS E w1 l o:=PS.below aO hg1;have hG1:=gX E.b w hg1;have az:ag w1 w.heap.size 24 Z7:=ag.aC bz hg1)
   |(go_at_call 111;refine (C9 E _ l o aO).mono ?_;rw [HD.out];rintro e w2 ⟨rfl,hg2⟩;have hP2:=NN hP1 hg2;have hG2:=aL hG1 hg2;have ax:=bV az hg2;have jT:=ax.lt)
   |(go_at_call 112;refine (Hn.define E _ l o _ r aO fZ.out HR.out).mono ?_;rintro e w3 ⟨hg3,⟨a,k,hb,rfl⟩|⟨k3,ng,m3,p3,t3,a3,kC,A3,c3,l3,rfl,hq3,iI,GJ,hP3⟩⟩;exact iG (Gr.trans aJ hg3) hb;have hG3:=bQ hG2 hg3;have kE:=af hq3;clear hq3;have aF:=aD ax hg3;obtain ⟨_,vM,wQ,wR,wS,wT,wU,wV,vN⟩:=aF.av;have iI:=aI.mono (lo':=w2.heap.size+0) iI (by simp)))
  exact aX Tryz.results93 rfl rfl dS ⟨aJ,.inr ⟨k3,ng,m3,p3,t3,a3,kC,A3,c3,l3,rfl,kE.out,aI.mono (lo:=w2.heap.size+0) nS (by omega),GJ,aO⟩⟩
 ·rw [if_neg hd] at hq
  have HD:=af (show defines l=false by simpa using hd)
  have fZ:=af hq
  clear hq hd
  go_enter Tryz.func93,Tryz.ntmps93
  go_wp2_with (first
   |(go_at_call 37;refine (aH E _ l o aO).mono ?_;rintro e w1 ⟨rfl,hg1⟩;have hP1:PS E w1 l o:=PS.below aO hg1;have hG1:=gX E.b w hg1;have az:ag w1 w.heap.size 24 Z7:=ag.aC bz hg1)
   |(go_at_call 111;refine (C9 E _ l o aO).mono ?_;rw [HD.out];rintro e w2 ⟨rfl,hg2⟩;have hP2:=NN hP1 hg2;have hG2:=aL hG1 hg2;have ax:=bV az hg2;have jT:=ax.lt)
   |(go_at_call 113;refine (Hn.simple E _ l o _ r aO fZ.out HR.out).mono ?_;rintro e w3 ⟨hg3,⟨a,k,hb,rfl⟩|⟨k3,ng,m3,p3,t3,a3,kC,A3,c3,l3,rfl,hq3,iI,GJ,hP3⟩⟩;exact iG (Gr.trans aJ hg3) hb;have hG3:=bQ hG2 hg3;have kE:=af hq3;clear hq3;have aF:=aD ax hg3;obtain ⟨_,vM,wQ,wR,wS,wT,wU,wV,vN⟩:=aF.av;have iI:=aI.mono (lo':=w2.heap.size+0) iI (by simp)))
  exact aX Tryz.results93 rfl rfl dS ⟨aJ,.inr ⟨k3,ng,m3,p3,t3,a3,kC,A3,c3,l3,rfl,kE.out,aI.mono (lo:=w2.heap.size+0) nS (by omega),GJ,aO⟩⟩
end
def tF (k:Int):List UInt8 × Nat:=
 if k=18 then ([124,124],1) else if k=17 then ([38,38],2) else if k=11 then ([61,61],3) else if k=12 then ([33,61],3) else if k=13 then ([60],3) else if k=14 then ([60,61],3) else if k=15 then ([62],3) else if k=16 then ([62,61],3) else if k=1 then ([43],4) else if k=2 then ([45],4) else if k=3 then ([42],5) else if k=4 then ([47],5) else if k=5 then ([37],5) else ([],0)
theorem Im (k:Int) (w:World):Calls Tryz.prog 130 #[.int .i64 k] w fun e w'=>e= .returned (.tuple #[.string (bs (tF k).1),.int .i64 (tF k).2])/\w=w':=by
 by_cases h18:k=18
 ·subst h18
  go_enter Tryz.func130,Tryz.ntmps130
  go_wp2
  go_ret2
  exact ⟨rfl,rfl⟩
 have e18:(k == 18)=false:=by simpa using h18
 by_cases Em:k=17
 ·subst Em
  go_enter Tryz.func130,Tryz.ntmps130
  go_wp2
  go_ret2
  exact ⟨rfl,rfl⟩
 have e17:(k == 17)=false:=by simpa using Em
 by_cases h11:k=11
 ·subst h11
  go_enter Tryz.func130,Tryz.ntmps130
  go_wp2
  go_ret2
  exact ⟨rfl,rfl⟩
 have e11:(k == 11)=false:=by simpa using h11
 by_cases h12:k=12
 ·subst h12
  go_enter Tryz.func130,Tryz.ntmps130
  go_wp2
  go_ret2
  exact ⟨rfl,rfl⟩
 have e12:(k == 12)=false:=by simpa using h12
 by_cases Ei:k=13
 ·subst Ei
  go_enter Tryz.func130,Tryz.ntmps130
  go_wp2
  go_ret2
  exact ⟨rfl,rfl⟩
 have e13:(k == 13)=false:=by simpa using Ei
 by_cases Ej:k=14
 ·subst Ej
  go_enter Tryz.func130,Tryz.ntmps130
  go_wp2
  go_ret2
  exact ⟨rfl,rfl⟩
 have e14:(k == 14)=false:=by simpa using Ej
 by_cases El:k=15
 ·subst El
  go_enter Tryz.func130,Tryz.ntmps130
  go_wp2
  go_ret2
  exact ⟨rfl,rfl⟩
 have e15:(k == 15)=false:=by simpa using El
 by_cases h16:k=16
 ·subst h16
  go_enter Tryz.func130,Tryz.ntmps130
  go_wp2
  go_ret2
  exact ⟨rfl,rfl⟩
 have e16:(k == 16)=false:=by simpa using h16
 by_cases h1:k=1
 ·subst h1
  go_enter Tryz.func130,Tryz.ntmps130
  go_wp2
  go_ret2
  exact ⟨rfl,rfl⟩
 have e1:(k == 1)=false:=by simpa using h1
 by_cases h2:k=2
 ·subst h2
  go_enter Tryz.func130,Tryz.ntmps130
  go_wp2
  go_ret2
  exact ⟨rfl,rfl⟩
 have e2:(k == 2)=false:=by simpa using h2
 by_cases h3:k=3
 ·subst h3
  go_enter Tryz.func130,Tryz.ntmps130
  go_wp2
  go_ret2
  exact ⟨rfl,rfl⟩
 have e3:(k == 3)=false:=by simpa using h3
 by_cases h4:k=4
 ·subst h4
  go_enter Tryz.func130,Tryz.ntmps130
  go_wp2
  go_ret2
  exact ⟨rfl,rfl⟩
 have e4:(k == 4)=false:=by simpa using h4
 by_cases h5:k=5
 ·subst h5
  go_enter Tryz.func130,Tryz.ntmps130
  go_wp2
  go_ret2
  exact ⟨rfl,rfl⟩
 have e5:(k == 5)=false:=by simpa using h5
 have hs:tF k=([],0):=by simp only [tF,if_neg h18,if_neg Em,if_neg h11,if_neg h12,if_neg Ei,if_neg Ej,if_neg El,if_neg h16,if_neg h1,if_neg h2,if_neg h3,if_neg h4,if_neg h5]
 rw [hs]
 clear h18 Em h11 h12 Ei Ej El h16 h1 h2 h3 h4 h5 hs
 go_enter Tryz.func130,Tryz.ntmps130
 go_wp2
 go_ret2
 exact ⟨rfl,rfl⟩
theorem NS (m:List UInt8) (k:Nat) (hk:k < 19) (h:(tF k).1=m) (hn:∀j:Nat,j < k->(tF j).1≠m):nC m=((k:Int),(tF k).2):=by
 subst h
 have h0:=hn 0
 rcases (show k=0\/k=1\/k=2\/k=3\/k=4\/k=5\/k=6\/k=7\/k=8\/k=9\/k=10\/k=11\/k=12\/k=13\/k=14\/k=15\/k=16\/k=17\/k=18 by omega) with rfl|rfl|rfl|rfl|rfl|rfl|rfl|rfl|rfl|rfl|rfl|rfl|rfl|rfl|rfl|rfl|rfl|rfl|rfl <;> first|rfl|exact absurd rfl (h0 (by omega))
theorem Su (m:List UInt8) (hn:∀j:Nat,j < 19->(tF j).1≠m):nC m=(0,0):=by
 have h18:¬m=[124,124]:=fun h=>hn 18 (by omega) h.symm
 have Em:¬m=[38,38]:=fun h=>hn 17 (by omega) h.symm
 have h11:¬m=[61,61]:=fun h=>hn 11 (by omega) h.symm
 have h12:¬m=[33,61]:=fun h=>hn 12 (by omega) h.symm
 have Ei:¬m=[60]:=fun h=>hn 13 (by omega) h.symm
 have Ej:¬m=[60,61]:=fun h=>hn 14 (by omega) h.symm
 have El:¬m=[62]:=fun h=>hn 15 (by omega) h.symm
 have h16:¬m=[62,61]:=fun h=>hn 16 (by omega) h.symm
 have h1:¬m=[43]:=fun h=>hn 1 (by omega) h.symm
 have h2:¬m=[45]:=fun h=>hn 2 (by omega) h.symm
 have h3:¬m=[42]:=fun h=>hn 3 (by omega) h.symm
 have h4:¬m=[47]:=fun h=>hn 4 (by omega) h.symm
 have h5:¬m=[37]:=fun h=>hn 5 (by omega) h.symm
 simp only [nC,if_neg h18,if_neg Em,if_neg h11,if_neg h12,if_neg Ei,if_neg Ej,if_neg El,if_neg h16,if_neg h1,if_neg h2,if_neg h3,if_neg h4,if_neg h5]
theorem zq (E:Env) (w:World) (l:List T) (o:Nat) (h:PS E w l o):
  Calls Tryz.prog 106 #[.pointer (some ⟨E.b,0,none⟩)] w fun e w'=>e= .returned (.tuple #[.int .i64 (nC (mark l)).1,.int .i64 (nC (mark l)).2])/\Below w.heap.size w w':=by
 have H:=af h
 clear h
 obtain ⟨M,hM⟩:=aS (mark l)
 have HM:=af hM
 rw [hM]
 clear hM
 go_enter Tryz.func106,Tryz.ntmps106
 go_wp2_with (go_at_call 37;refine (aH E _ l o H.out).mono ?_;rw [HM.out];rintro e w1 ⟨rfl,hb⟩)
 go_loop [12] (fun u=>∃k:Nat,k<=19/\u= .int .i64 k/\∀j:Nat,j < k->(tF j).1≠M) (fun u=>19 - (intOf u).toNat)
 case atStart=>exact ⟨0,by omega,rfl,fun j h=>by omega⟩
 case round=>
  obtain ⟨k,hk,rfl,hn⟩:=hrel
  have HN:=af hn
  clear hn
  by_cases hlt:k < 19
  ·by_cases hs:(tF k).1=M
   ·have HS:=af hs
    have heq:((bs (tF k).1).toList == (bs M).toList)=true:=by rw [hs];simp
    clear hs
    go_wp2_with (go_at_call 130;refine (Im k _).mono ?_;rintro e w' ⟨rfl,rfl⟩)
    go_ret2
    exact ⟨by rw [NS M k hlt HS.out HN.out];rfl,hb⟩
   ·have HS:=af hs
    have heq:=Cc hs
    clear hs
    go_wp2_with (go_at_call 130;refine (Im k _).mono ?_;rintro e w' ⟨rfl,rfl⟩)
    go_round
    case rel=>exact ⟨k+1,by omega,by go_num,fun j hj=>by
     rcases Nat.lt_or_ge j k with h|h
     ·exact HN.out j h
     ·obtain rfl:j=k:=by omega
      exact HS.out⟩
    case measure=>simp [intOf];omega
  ·obtain rfl:k=19:=by omega
   go_wp2
   go_ret2
   exact ⟨by rw [Su M HN.out];rfl,hb⟩
section
attribute [local go_sem ↓] eO eP eT eu
theorem EI (n:Nat) (hn:n<=cK) (H:∀m,m<=n->ku m):C0 (n+1) 125 .oq:=by
 intro E w l o g r hP hq hr
 simp only [go,eH,dG,dM] at hq
 have hlt:=hP.lt
 have hgt:=hP.toks.lt
 have HR:=af hr
 have Hn:=H n (Nat.le_refl _)
 clear hr
 have fZ:=af hq
 clear hq
 go_enter Tryz.func125,Tryz.ntmps125
 go_wp2_with (first
  |(go_at_call 18;(with_reducible refine (bT E _ l o [38] ⟨#[38]⟩ _ _ aO rfl (by simp) fZ.out).mono ?_);rintro e w1 ⟨hg1,⟨a,k,hb,rfl⟩|⟨x1,l1,rfl,hq1,hP1⟩⟩;exact iG (Gr.trans aJ hg1) hb;have hG1:=o8 w hg1;have fG:=af hq1;clear hq1;have kW:=hP1.lt;have oP:=hP1.toks.lt;have hs1:=hg1.size;(try simp at hs1);have az:ag w1 w.heap.size 24 Z7:=bU hg1;have mo:=az.lt)
  |(go_at_call 90;refine (Hn.typeName E _ l1 o _ r aO fG.out HR.out).mono ?_;rintro e w2 ⟨hg2,⟨a,k,hb,rfl⟩|⟨k2,kJ,m2,p2,t2,a2,bN,A2,c2,l2,rfl,hq2,bI,_,hP2⟩⟩;exact iG (Gr.trans aJ hg2) hb;have hG2:=bQ hG1 hg2;have fJ:=af hq2;clear hq2;have ou:=hP2.lt;have ql:=hP2.toks.lt;have hs2:=hg2.size;(try simp at hs2);have ax:=aD az hg2;have jT:=ax.lt;have bI:=aI.mono (lo':=w1.heap.size+0) bI (by simp);have wW:=aI.lI (lo:=w1.heap.size) (k:=k2) (op:=kJ) (m:=m2) (p:=p2) (t:=t2) (a:=a2) (aI.mono bI (by omega)) (by omega)))
 obtain ⟨w3,hW⟩:=uj ((w2.alloc (.cells #[.int .i64 k2,.int .i64 kJ,.int .i64 m2,.string (bs p2),.string (bs t2),.int .i64 a2,.slice A2 bN.length c2] 24)).alloc (.cells #[.int .i64 38,.int .i64 0,.int .i64 0,.string ⟨#[]⟩,.string ⟨#[]⟩,.int .i64 x1.2,.slice (some ⟨w2.heap.size,0,none⟩) 1 1] 24))
 have hP3:PS E w3 l2 o:=by rw [hW];exact aO
 have hG3:Gr (·=E.b) w w3:=by rw [hW];exact aJ
 have aF:ag w3 w.heap.size 24 Z7:=by rw [hW];exact bz
 have aM:ag w3 (w2.heap.size+1) 24 (N7 38 0 0 ⟨#[]⟩ ⟨#[]⟩ x1.2 (.slice (some ⟨w2.heap.size,0,none⟩) 1 1)):=by rw [hW];exact bz
 have zu:=aM.lt
 have kX:aN w3 w1.heap.size (w2.heap.size+1) (.slice (some ⟨w2.heap.size,0,none⟩) 1 1) [Tr.mk k2 kJ m2 p2 t2 a2 bN]:=by rw [hW];exact oZ
 rw [<-hW]
 clear hW
 obtain ⟨_,_,_,_,_,_,_,sH,pg⟩:=aM.av
 refine Ch 9 7 8 1 E.b w1.heap.size (w2.heap.size+1) (·=w2.heap.size+1) 24 (fun i=>match i with|0=>.pointer (some ⟨w2.heap.size+1,6,none⟩)|1=>.slice (some ⟨w2.heap.size,0,none⟩) 1 1|2=>.pointer (some ⟨E.b,0,none⟩)|3=>.pointer (some ⟨E.b,0,none⟩)|4=>.pointer (some ⟨E.b,0,none⟩)|5=>.pointer (some ⟨E.b,0,none⟩)|6=>.func (Fn.func 136) #[.pointer (some ⟨E.b,0,none⟩)] #[]|_=>undef) (.slice (some ⟨w2.heap.size,0,none⟩) 1 1) [Tr.mk k2 kJ m2 p2 t2 a2 bN] 91 #[.pointer (some ⟨E.b,0,none⟩),.string ⟨#[123]⟩,.string ⟨#[125]⟩,.func (Fn.func 136) #[.pointer (some ⟨E.b,0,none⟩)] #[]] (oO r) (Cg E o _ r) (by kernel_rfl) rfl (by kernel_rfl) (by decide) (by decide) (by decide) (by decide) (by decide) (by decide) rfl rfl rfl rfl ⟨_,rfl,rfl⟩ rfl (by kernel_rfl) (by kernel_rfl) rfl
  (fun a w hev=>by
   have e4:=hev 4 _ _ (by omega) rfl rfl (by kernel_rfl) (by omega) (by omega)
   have e6:=hev 6 _ _ (by omega) rfl rfl (by kernel_rfl) (by omega) (by omega)
   simp [Act.eval] at e4 e6
   unfold execOp;go_simp)
  (fun i o hoi hi h1 h2 a w hcw hun hev=>by
   rcases (show i=0\/i=1\/i=2\/i=3\/i=4\/i=5\/i=6\/i=7\/i=8 by omega) with rfl|rfl|rfl|rfl|rfl|rfl|rfl|rfl|rfl
   ·obtain rfl:=Option.some.inj hoi;exact sZ _ _ _ _ _ _ _ _ ((hun 3 (fD (by kernel_rfl))).trans rfl)
   ·obtain rfl:=Option.some.inj hoi;exact vF _ _ _ _ _ _ _ _ 6 _ (hev 0 _ _ (by omega) rfl rfl (by kernel_rfl)) hcw
   ·obtain rfl:=Option.some.inj hoi;exact qd _ _ _ _ _ _ _ _ ((hun 0 (fD (by kernel_rfl))).trans rfl)
   ·obtain rfl:=Option.some.inj hoi;exact AU _ _ _ _ _ _ _ _ (hev 2 _ _ (by omega) rfl rfl (by kernel_rfl))
   ·obtain rfl:=Option.some.inj hoi;exact xy _ _ _ _ _ _ _ _ (hev 3 _ _ (by omega) rfl rfl (by kernel_rfl))
   ·obtain rfl:=Option.some.inj hoi;exact qd _ _ _ _ _ _ _ _ ((hun 0 (fD (by kernel_rfl))).trans rfl)
   ·obtain rfl:=Option.some.inj hoi;exact ade _ _ _ _ _ _ _ _ _ (hev 5 _ _ (by omega) rfl rfl (by kernel_rfl))
   ·exact absurd rfl h1
   ·exact absurd rfl h2)
  (fun i hi h1 h2=>by
   rcases (show i=0\/i=1\/i=2\/i=3\/i=4\/i=5\/i=6\/i=7\/i=8 by omega) with rfl|rfl|rfl|rfl|rfl|rfl|rfl|rfl|rfl <;> first|exact absurd rfl h1|exact absurd rfl h2|exact ⟨by kernel_rfl,by kernel_rfl⟩) ⟨by kernel_rfl,by kernel_rfl⟩
  rfl (by decide) (by decide) rfl rfl (by kernel_rfl) (by kernel_rfl) (by kernel_rfl) (by kernel_rfl) rfl kX kX.p (fun q hq=>by omega) sH (pg 6) (by omega) (by omega) (by omega) (by omega) (by simp [cK]) (uk E _ o _ r (by omega) (by omega))
  ((Hn.within .key E _ l2 o [123] [125] _ _ _ r _ rfl hP3.drew rfl rfl (by simp) (by simp) fJ.out HR.out).mono fun e w' h=>Jn h) ?_ ?_
 ·rintro a w' c had ⟨at_,k,hb,rfl⟩ hg
  exact And.intro had ⟨hG3.trans hg,.inl ⟨_,_,hb,rfl⟩⟩
 rintro vals w' A4 c4 us ⟨l4,hq4,yO⟩ abJ hKx yz hgx eB
 obtain ⟨w4,hW⟩:=uj (w'.setCell ⟨w2.heap.size+1,6,none⟩ (.slice A4 ([Tr.mk k2 kJ m2 p2 t2 a2 bN] ++ us).length c4))
 have qm:PS E w4 l4 o:=by rw [hW];exact aO
 have hsx:=hgx.size
 have hG4:Gr (·=E.b) w w4:=by rw [hW];exact Gr.setCell (o7 hG3 hgx (by omega)) (.inl (by first|(simp;done)|(simp;omega))) _
 have aK:ag w4 w.heap.size 24 Z7:=by rw [hW];exact ag.far (ag.wr aF hgx (by omega) (.inl (by omega))) (by first|(simp;done)|(simp;omega)) _
 have aW:ag w4 (w2.heap.size+1) 24 (N7 38 0 0 ⟨#[]⟩ ⟨#[]⟩ x1.2 (.slice A4 ([Tr.mk k2 kJ m2 p2 t2 a2 bN] ++ us).length c4)):=by rw [hW];exact ag.jC (ag.wr aM hgx (by omega) (.inr rfl)) _
 have qo:aN w4 w1.heap.size (w2.heap.size+1) (.slice A4 ([Tr.mk k2 kJ m2 p2 t2 a2 bN] ++ us).length c4) ([Tr.mk k2 kJ m2 p2 t2 a2 bN] ++ us):=by rw [hW];exact hKx.setCell (.inr rfl) _
 dsimp only [bG,List.take_succ_cons,List.take_zero,List.take_nil]
 rw [<-hW]
 clear hW yO hKx yz hgx eB hsx
 have tH:=af hq4
 clear hq4
 obtain ⟨_,Ck,Dp,EB,EC,ED,EE,xJ,_⟩:=aW.av
 obtain ⟨_,wO,xC,xD,xE,xG,xH,xI,wP⟩:=aK.av
 go_wp2
 have Uy:=abJ
 unfold cK at Uy
 exact aX Tryz.results125 rfl rfl dS ⟨aJ,.inr ⟨38,0,0,[],[],x1.2,([Tr.mk k2 kJ m2 p2 t2 a2 bN] ++ us),A4,c4,l4,rfl,tH.out,aI.mono (lo:=w1.heap.size) (v:=.slice A4 ([Tr.mk k2 kJ m2 p2 t2 a2 bN] ++ us).length c4) (ks:=([Tr.mk k2 kJ m2 p2 t2 a2 bN] ++ us)) (aN.kid (h:=w2.heap.size+1) oZ) (by omega),(by simp [cK];omega),aO⟩⟩
theorem Jq {Q:Exit->Act->World->Prop} {K:Act->World->Prop} {w:World} {a:Act} {ty:TypeId} {pos:String} {after:Array Edge} (x y:Operand) (v:ByteArray) {z i:Nat} {u:Value}
  (hx:a.eval x= .pointer (some ⟨z,i,none⟩)) (hy:a.eval y= .string v) (hc:w.cell? ⟨z,i,none⟩=some u) (hf:w.frozen? ⟨z,i,none⟩=false) (hk:K (a.put none undef) (w.setCell ⟨z,i,none⟩ (.string v))):
  ({ dst:=none,op:=.store 9 x y,type:=ty,pos:=pos,after:=after,guard:=none }:Oper).wp Tryz.prog a w K Q:=by
 have:(execOp a.eval { dst:=none,op:=.store 9 x y,type:=ty,pos:=pos,after:=after,guard:=none }).run Tryz.prog w= .ok .skip (w.setCell ⟨z,i,none⟩ (.string v)):=by
  unfold execOp;simp only [hx,hy];go_simp
 unfold Oper.wp
 rw [this]
 exact hk
theorem GK (n:Nat) (hn:n<=cK) (H:∀m,m<=n->ku m):C0 (n+1) 90 .typeName:=by
 intro E w l o g r hP hq hr
 simp only [go,jr,fC,eD,dM] at hq
 have hlt:=hP.lt
 have hgt:=hP.toks.lt
 clear hr
 have fZ:=af hq
 clear hq
 go_enter Tryz.func90,Tryz.ntmps90
 go_wp2_with (first
  |(go_at_call 19;(with_reducible refine (jd E _ l o _ _ aO fZ.out).mono ?_);rintro e w1 ⟨hg1,⟨a,k,hb,rfl⟩|⟨x1,l1,rfl,hq1,hP1⟩⟩;exact iG (Gr.trans aJ hg1) hb;have hG1:=o8 w hg1;have fG:=af hq1;clear hq1;have kW:=hP1.lt;have oP:=hP1.toks.lt;have hs1:=hg1.size;(try simp at hs1);have az:ag w1 w.heap.size 24 Z7:=bU hg1))
 by_cases hm:mark l1=[46]
 ·skip
  have eY:=fG.out
  rw [if_pos hm] at eY
  have HM:=af hm
  clear fG hm
  have fG:=af eY
  clear eY
  go_wp2_with (first
   |(go_at_call 20;refine (qc E _ l1 o [46] _ aO rfl (by simp) HM.out).mono ?_;rintro e w2 ⟨rfl,hg2,xs,l2,Lp,hP2⟩;have hG2:=bQ hG1 hg2;have hq2:=fG.out;rw [Lp,bH] at hq2;have fJ:=af hq2;clear hq2 Lp;have ax:=aD az hg2;have qI:ag w2 w1.heap.size 53 (T4 x1.1.k (bs x1.1.t) x1.1.n x1.2):=bU hg2;have bq:ag w2 (w1.heap.size+1) 24 (N7 13 0 0 ⟨#[]⟩ (bs x1.1.t) x1.2 (.slice none 0 0)):=bU hg2;have kY:aN w2 (w1.heap.size+2) (w1.heap.size+1) (.slice none 0 0) ([]:List Tr):=rO hg2))
  refine wp_region_held_drew (S:=fun W=>ag W w1.heap.size 53 (T4 x1.1.k (bs x1.1.t) x1.1.n x1.2)) (by kernel_rfl) bz (fun hS0=>?_)
  refine oU 0 hS0 ?_ (he:=fun w' hS=>by ((try skip);unfold execOp;go_simp;first|done|exact rfl))
  refine oU 1 hS0 ?_ (he:=fun w' hS=>by ((try obtain ⟨_,_,s1,_⟩:=hS.jX);unfold execOp;go_simp;first|done|exact rfl))
  refine oU 2 hS0 ?_ (he:=fun w' hS=>by ((try skip);unfold execOp;go_simp;first|done|exact rfl))
  refine oU 3 hS0 ?_ (he:=fun w' hS=>by ((try skip);unfold execOp;go_simp;first|done|exact rfl))
  refine oU 4 hS0 ?_ (he:=fun w' hS=>by ((try skip);unfold execOp;go_simp;first|done|exact rfl))
  refine oU 7 hS0 ?_ (he:=fun w' hS=>by ((try skip);unfold execOp;go_simp;first|done|exact rfl))
  refine oI 5 rfl (fP (args:=#[.pointer (some ⟨E.b,0,none⟩)]) (f:=19) (by unfold execOp;go_simp) ((jd E _ l2 o _ _ (by exact aO) fJ.out).mono ?_))
  rintro e w3 ⟨hg3,⟨a,k,hb,rfl⟩|⟨x3,l3,rfl,hq3,hP3⟩⟩
  ·exact iG (Gr.trans aJ hg3) hb
  have tJ:=aD qI hg3
  have aM:=aD bq hg3
  have aF:=aD ax hg3
  have hG3:=bQ hG2 hg3
  refine And.intro tJ ?_
  simp only [Act.put,gA,gB,gC,gD,gE,gF]
  have hS0:=tJ
  refine Jl 6 (.string (bs x3.1.t)) hS0 ?_
  simp only [Act.put,gA,gB,gC,gD,gE,gF]
  refine oI 8 rfl (Jq _ _ (bs x1.1.t) rfl rfl (aM.cell 3) (aM.frozen 3) (And.intro (ag.far tJ (by simp) _) ?_))
  simp only [Act.put,gA,gB,gC,gD,gE,gF]
  refine oI 9 rfl (sF (.pointer (some ⟨w1.heap.size+1,4,none⟩)) (by unfold execOp;go_simp) (And.intro (ag.far tJ (by simp) _) ?_))
  simp only [Act.put,gA,gB,gC,gD,gE,gF]
  refine oI 10 rfl (Jq _ _ (bs x3.1.t) rfl rfl ((ag.abC aM _).cell 4) ((ag.abC aM _).frozen 4) (And.intro (ag.far (ag.far tJ (by simp) _) (by simp) _) ?_))
  simp only [Act.put,gA,gB,gC,gD,gE,gF]
  refine eZ ?_
  have kE:=af hq3
  clear hq3
  obtain ⟨w4,hW⟩:=uj ((w3.setCell ⟨w1.heap.size+1,3,none⟩ (.string (bs x1.1.t))).setCell ⟨w1.heap.size+1,4,none⟩ (.string (bs x3.1.t)))
  have qm:PS E w4 l3 o:=by rw [hW];exact aO
  have hG4:Gr (·=E.b) w w4:=by rw [hW];exact aJ
  have aK:ag w4 w.heap.size 24 Z7:=by rw [hW];exact bz
  have aW:ag w4 (w1.heap.size+1) 24 (N7 13 0 0 (bs x1.1.t) (bs x3.1.t) x1.2 (.slice none 0 0)):=by rw [hW];exact bz
  rw [<-hW]
  clear hW
  obtain ⟨_,Ck,Dp,EB,EC,ED,EE,xJ,_⟩:=aW.av
  obtain ⟨_,wO,xC,xD,xE,xG,xH,xI,wP⟩:=aK.av
  go_wp2
  exact aX Tryz.results90 rfl rfl dS ⟨aJ,.inr ⟨13,0,0,x1.1.t,x3.1.t,x1.2,[],none,0,l3,rfl,kE.out,aI.nil _ _ 0,by simp,aO⟩⟩
 ·skip
  have eY:=fG.out
  rw [if_neg hm] at eY
  have HM:=af hm
  clear fG hm
  have fG:=af eY
  clear eY
  go_wp2_with (first
   |(go_at_call 20;refine (rA E _ l1 o [46] _ aO rfl HM.out).mono ?_;rintro e w2 ⟨rfl,hg2⟩;have hP2:PS E w2 l1 o:=PS.below aO hg2;have hG2:=aL hG1 hg2;have ax:=bV az hg2;obtain ⟨_,lJ,lK,lM,lN,lQ,lS,lT,lU⟩:=ax.av;have qI:ag w2 w1.heap.size 53 (T4 x1.1.k (bs x1.1.t) x1.1.n x1.2):=ag.aC bz hg2;have bq:ag w2 (w1.heap.size+1) 24 (N7 13 0 0 ⟨#[]⟩ (bs x1.1.t) x1.2 (.slice none 0 0)):=ag.aC bz hg2;obtain ⟨_,YL,abF,abG,abH,U8,YM,sG,_⟩:=bq.av;have kY:aN w2 (w1.heap.size+2) (w1.heap.size+1) (.slice none 0 0) ([]:List Tr):=aN.aC oZ hg2))
  exact aX Tryz.results90 rfl rfl dS ⟨aJ,.inr ⟨13,0,0,[],x1.1.t,x1.2,[],none,0,l1,rfl,fG.out,aI.mono (lo:=w1.heap.size+2) (v:=.slice none 0 0) (ks:=([]:List Tr)) (aN.kid (h:=w1.heap.size+1) oZ) (by omega),(by simp [cK]),aO⟩⟩
theorem Lr (n:Nat) (hn:n<=cK) (H:∀m,m<=n->ku m):C0 (n+1) 126 .first:=by
 intro E w l o g r hP hq hr
 simp only [go,fC,eD,dM] at hq
 have hlt:=hP.lt
 have hgt:=hP.toks.lt
 have HR:=af hr
 have Hn:=H n (Nat.le_refl _)
 clear hr
 obtain ⟨⟨⟨xk,xt,xn⟩,xp⟩,l1,rfl⟩:=hP.cons
 by_cases h3:xk=3
 ·rw [if_pos (show kind (((⟨xk,xt,xn⟩,xp):T) :: l1)=3 from h3),bH] at hq
  subst h3
  have fZ:=af hq
  clear hq
  go_enter Tryz.func126,Tryz.ntmps126
  go_wp2_with (first
   |(go_at_call 21;refine (iO E _ ((⟨3,xt,xn⟩,xp):T) l1 o aO).mono ?_;rintro e w1 ⟨rfl,hb1⟩;have hP1:PS E w1 (((⟨3,xt,xn⟩,xp):T) :: l1) o:=PS.below aO hb1;have hG1:Gr (·=E.b) w w1:=Gr.trans aJ (Gr.of_below hb1);have kW:=hP1.lt;have hs1:w.heap.size+1<=w1.heap.size:=(by have:=hb1.size;simpa using this);have az:ag w1 w.heap.size 24 Z7:=ag.aC bz hb1))
  refine wp_region_held_drew (S:=fun W=>ag W w1.heap.size 53 (T4 3 (bs xt) xn xp)) (by kernel_rfl) bz (fun hS0=>?_)
  refine oU 0 hS0 ?_ (he:=fun w' hS=>by ((try skip);unfold execOp;go_simp;first|done|exact rfl))
  refine oU 1 hS0 ?_ (he:=fun w' hS=>by ((try obtain ⟨_,_,_,s2,_⟩:=hS.jX);unfold execOp;go_simp;first|done|exact rfl))
  refine oU 2 hS0 ?_ (he:=fun w' hS=>by ((try skip);unfold execOp;go_simp;first|done|exact rfl))
  refine oU 3 hS0 ?_ (he:=fun w' hS=>by ((try skip);unfold execOp;go_simp;first|done|exact rfl))
  refine oU 4 hS0 ?_ (he:=fun w' hS=>by ((try skip);unfold execOp;go_simp;first|done|exact rfl))
  refine oI 5 rfl (fP (args:=#[.pointer (some ⟨E.b,0,none⟩)]) (f:=39) (by unfold execOp;go_simp) ((iK E _ ((⟨3,xt,xn⟩,xp):T) l1 o (by exact aO) (by simp)).mono ?_))
  rintro e w2 ⟨rfl,hg2,hP2⟩
  have qI:ag w2 w1.heap.size 53 (T4 3 (bs xt) xn xp):=bU hg2
  have ax:=aD az hg2
  have hG2:=bQ hG1 hg2
  refine And.intro qI ?_
  simp only [Act.put,gA,gB,gC,gD,gE,gF]
  refine oI 6 rfl (sF (.int .i64 xp) (by unfold execOp;go_simp) (And.intro qI ?_))
  simp only [Act.put,gA,gB,gC,gD,gE,gF]
  refine oI 7 rfl (sF (.agg #[.int .i64 26,.int .i64 0,.int .i64 xn,.string ⟨#[]⟩,.string ⟨#[]⟩,.int .i64 xp,.slice none 0 0]) (by unfold execOp;go_simp) (And.intro qI ?_))
  simp only [Act.put,gA,gB,gC,gD,gE,gF]
  refine oI 8 rfl (Ci _ _ 26 0 xn [] [] xp 0 0 none rfl rfl ax fun w9 hz3 gP=>And.intro (ag.gr qI gP (by omega)) ?_)
  refine eZ ?_
  simp only [Act.put,gA,gB,gC,gD,gE,gF]
  go_wp2
  exact aX Tryz.results126 rfl rfl hz3 ⟨gP.one hG2 (Nat.le_refl _),.inr ⟨26,0,xn,[],[],xp,[],none,0,l1,rfl,fZ.out,aI.nil _ _ 0,by simp,hP2.one gP (by omega) (by omega)⟩⟩
 rw [if_neg (show ¬kind (((⟨xk,xt,xn⟩,xp):T) :: l1)=3 from h3)] at hq
 have e3:(xk == 3)=false:=by simpa using h3
 clear h3
 by_cases h4:xk=4
 ·rw [if_pos (show kind (((⟨xk,xt,xn⟩,xp):T) :: l1)=4 from h4),bH] at hq
  subst h4
  have fZ:=af hq
  clear hq
  go_enter Tryz.func126,Tryz.ntmps126
  go_wp2_with (first
   |(go_at_call 21;refine (iO E _ ((⟨4,xt,xn⟩,xp):T) l1 o aO).mono ?_;rintro e w1 ⟨rfl,hb1⟩;have hP1:PS E w1 (((⟨4,xt,xn⟩,xp):T) :: l1) o:=PS.below aO hb1;have hG1:Gr (·=E.b) w w1:=Gr.trans aJ (Gr.of_below hb1);have kW:=hP1.lt;have hs1:w.heap.size+1<=w1.heap.size:=(by have:=hb1.size;simpa using this);have az:ag w1 w.heap.size 24 Z7:=ag.aC bz hb1))
  refine wp_region_held_drew (S:=fun W=>ag W w1.heap.size 53 (T4 4 (bs xt) xn xp)) (by kernel_rfl) bz (fun hS0=>?_)
  refine oU 0 hS0 ?_ (he:=fun w' hS=>by ((try skip);unfold execOp;go_simp;first|done|exact rfl))
  refine oU 1 hS0 ?_ (he:=fun w' hS=>by ((try obtain ⟨_,_,s1,_⟩:=hS.jX);unfold execOp;go_simp;first|done|exact rfl))
  refine oU 2 hS0 ?_ (he:=fun w' hS=>by ((try skip);unfold execOp;go_simp;first|done|exact rfl))
  refine oU 3 hS0 ?_ (he:=fun w' hS=>by ((try skip);unfold execOp;go_simp;first|done|exact rfl))
  refine oU 4 hS0 ?_ (he:=fun w' hS=>by ((try skip);unfold execOp;go_simp;first|done|exact rfl))
  refine oI 5 rfl (fP (args:=#[.pointer (some ⟨E.b,0,none⟩)]) (f:=39) (by unfold execOp;go_simp) ((iK E _ ((⟨4,xt,xn⟩,xp):T) l1 o (by exact aO) (by simp)).mono ?_))
  rintro e w2 ⟨rfl,hg2,hP2⟩
  have qI:ag w2 w1.heap.size 53 (T4 4 (bs xt) xn xp):=bU hg2
  have ax:=aD az hg2
  have hG2:=bQ hG1 hg2
  refine And.intro qI ?_
  simp only [Act.put,gA,gB,gC,gD,gE,gF]
  refine oI 6 rfl (sF (.int .i64 xp) (by unfold execOp;go_simp) (And.intro qI ?_))
  simp only [Act.put,gA,gB,gC,gD,gE,gF]
  refine oI 7 rfl (sF (.agg #[.int .i64 27,.int .i64 0,.int .i64 0,.string ⟨#[]⟩,.string (bs xt),.int .i64 xp,.slice none 0 0]) (by unfold execOp;go_simp) (And.intro qI ?_))
  simp only [Act.put,gA,gB,gC,gD,gE,gF]
  refine oI 8 rfl (Ci _ _ 27 0 0 [] xt xp 0 0 none rfl rfl ax fun w9 hz3 gP=>And.intro (ag.gr qI gP (by omega)) ?_)
  refine eZ ?_
  simp only [Act.put,gA,gB,gC,gD,gE,gF]
  go_wp2
  exact aX Tryz.results126 rfl rfl hz3 ⟨gP.one hG2 (Nat.le_refl _),.inr ⟨27,0,0,[],xt,xp,[],none,0,l1,rfl,fZ.out,aI.nil _ _ 0,by simp,hP2.one gP (by omega) (by omega)⟩⟩
 rw [if_neg (show ¬kind (((⟨xk,xt,xn⟩,xp):T) :: l1)=4 from h4)] at hq
 have e4:(xk == 4)=false:=by simpa using h4
 clear h4
 by_cases h1:xk=1
 ·rw [if_pos (show kind (((⟨xk,xt,xn⟩,xp):T) :: l1)=1 from h1),bH] at hq
  subst h1
  have fZ:=af hq
  clear hq
  go_enter Tryz.func126,Tryz.ntmps126
  go_wp2_with (first
   |(go_at_call 21;refine (iO E _ ((⟨1,xt,xn⟩,xp):T) l1 o aO).mono ?_;rintro e w1 ⟨rfl,hb1⟩;have hP1:PS E w1 (((⟨1,xt,xn⟩,xp):T) :: l1) o:=PS.below aO hb1;have hG1:Gr (·=E.b) w w1:=Gr.trans aJ (Gr.of_below hb1);have az:ag w1 w.heap.size 24 Z7:=ag.aC bz hb1)
   |(go_at_call 137;refine (qP E _ ((⟨1,xt,xn⟩,xp):T) l1 o aO (by simp)).mono ?_;rintro e w2 ⟨rfl,hg2,hP2⟩;have hG2:=bQ hG1 hg2;have ax:=aD az hg2;obtain ⟨_,lJ,lK,lM,lN,lQ,lS,lT,lU⟩:=ax.av))
  exact aX Tryz.results126 rfl rfl dS ⟨aJ,.inr ⟨30,0,0,[],xt,xp,[],none,0,l1,rfl,fZ.out,aI.nil _ _ 0,by simp,aO⟩⟩
 rw [if_neg (show ¬kind (((⟨xk,xt,xn⟩,xp):T) :: l1)=1 from h1)] at hq
 have e1:(xk == 1)=false:=by simpa using h1
 clear h1
 have fZ:=af hq
 clear hq
 go_enter Tryz.func126,Tryz.ntmps126
 go_wp2_with (first
  |(go_at_call 21;refine (iO E _ ((⟨xk,xt,xn⟩,xp):T) l1 o aO).mono ?_;rintro e w1 ⟨rfl,hb1⟩;have hP1:PS E w1 (((⟨xk,xt,xn⟩,xp):T) :: l1) o:=PS.below aO hb1;have hG1:Gr (·=E.b) w w1:=Gr.trans aJ (Gr.of_below hb1);have hs1:w.heap.size+1<=w1.heap.size:=(by have:=hb1.size;simpa using this);have az:ag w1 w.heap.size 24 Z7:=ag.aC bz hb1)
  |(go_at_call 138;refine (Hn.jW E _ (((⟨xk,xt,xn⟩,xp):T) :: l1) o _ r aO fZ.out HR.out).mono ?_;rintro e w2 ⟨hg2,⟨a,k,hb,rfl⟩|⟨k2,kJ,m2,p2,t2,a2,bN,A2,c2,l2,rfl,hq2,bI,hn2,hP2⟩⟩;exact iG (Gr.trans aJ hg2) hb;have hG2:=bQ hG1 hg2;have fJ:=af hq2;clear hq2;have ax:=aD az hg2;obtain ⟨_,lJ,lK,lM,lN,lQ,lS,lT,lU⟩:=ax.av;have bI:=aI.mono (lo':=w1.heap.size+1) bI (by simp)))
 exact aX Tryz.results126 rfl rfl dS ⟨aJ,.inr ⟨k2,kJ,m2,p2,t2,a2,bN,A2,c2,l2,rfl,fJ.out,aI.mono (lo:=w1.heap.size+1) nS (by omega),hn2,aO⟩⟩
theorem xK (E:Env) (w:World) (l:List T) (o:Nat) (h:PS E w l o):
  Calls Tryz.prog 92 #[.pointer (some ⟨E.b,0,none⟩)] w fun e w'=>e= .returned (.bool (begins l))/\Below w.heap.size w w':=by
 have H:=af h
 clear h
 by_cases hm0:mark l=[105,110,116]
 ·rw [show begins l=true by unfold begins;rw [hm0];simp [KV]]
  have HM:=af hm0
  clear hm0
  go_enter Tryz.func92,Tryz.ntmps92
  go_wp2_with (go_at_call 37;refine (aH E _ l o H.out).mono ?_;rw [HM.out,show bs [105,110,116]=⟨#[105,110,116]⟩ from rfl];rintro e w1 ⟨rfl,hb⟩)
  go_ret
  exact ⟨rfl,hb⟩
 have hc0:=bC hm0
 by_cases hm1:mark l=[98,111,111,108]
 ·rw [show begins l=true by unfold begins;rw [hm1];simp [KV]]
  have HM:=af hm1
  clear hm1
  go_enter Tryz.func92,Tryz.ntmps92
  go_wp2_with (go_at_call 37;refine (aH E _ l o H.out).mono ?_;rw [HM.out,show bs [98,111,111,108]=⟨#[98,111,111,108]⟩ from rfl];rintro e w1 ⟨rfl,hb⟩)
  go_ret
  exact ⟨rfl,hb⟩
 have hc1:=bC hm1
 by_cases hm2:mark l=[115,116,114,105,110,103]
 ·rw [show begins l=true by unfold begins;rw [hm2];simp [KV]]
  have HM:=af hm2
  clear hm2
  go_enter Tryz.func92,Tryz.ntmps92
  go_wp2_with (go_at_call 37;refine (aH E _ l o H.out).mono ?_;rw [HM.out,show bs [115,116,114,105,110,103]=⟨#[115,116,114,105,110,103]⟩ from rfl];rintro e w1 ⟨rfl,hb⟩)
  go_ret
  exact ⟨rfl,hb⟩
 have hc2:=bC hm2
 by_cases Yj:mark l=[42]
 ·rw [show begins l=true by unfold begins;rw [Yj];simp [KV]]
  have HM:=af Yj
  clear Yj
  go_enter Tryz.func92,Tryz.ntmps92
  go_wp2_with (go_at_call 37;refine (aH E _ l o H.out).mono ?_;rw [HM.out,show bs [42]=⟨#[42]⟩ from rfl];rintro e w1 ⟨rfl,hb⟩)
  go_ret
  exact ⟨rfl,hb⟩
 have hc3:=bC Yj
 by_cases hm4:mark l=[91]
 ·rw [show begins l=true by unfold begins;rw [hm4];simp [KV]]
  have HM:=af hm4
  clear hm4
  go_enter Tryz.func92,Tryz.ntmps92
  go_wp2_with (go_at_call 37;refine (aH E _ l o H.out).mono ?_;rw [HM.out,show bs [91]=⟨#[91]⟩ from rfl];rintro e w1 ⟨rfl,hb⟩)
  go_ret
  exact ⟨rfl,hb⟩
 have hc4:=bC hm4
 by_cases hm5:mark l=[102,117,110,99]
 ·rw [show begins l=true by unfold begins;rw [hm5];simp [KV]]
  have HM:=af hm5
  clear hm5
  go_enter Tryz.func92,Tryz.ntmps92
  go_wp2_with (go_at_call 37;refine (aH E _ l o H.out).mono ?_;rw [HM.out,show bs [102,117,110,99]=⟨#[102,117,110,99]⟩ from rfl];rintro e w1 ⟨rfl,hb⟩)
  go_ret
  exact ⟨rfl,hb⟩
 have Yf:=bC hm5
 have hbg:begins l=(kind l == 1):=by
  unfold begins KV
  simp only [hm0,hm1,hm2,Yj,hm4,hm5]
  simp
  rfl
 rw [hbg]
 clear hm0 hm1 hm2 Yj hm4 hm5 hbg
 obtain ⟨x,r,rfl⟩:=H.out.cons
 rw [yx]
 go_enter Tryz.func92,Tryz.ntmps92
 go_wp2_with (first
  |(go_at_call 37;refine (aH E _ (x :: r) o H.out).mono ?_;rintro e w1 ⟨rfl,hb⟩)
  |(go_at_call 21;refine (iO E _ x r o (PS.below H.out hb)).mono ?_;rintro e w2 ⟨rfl,hb2⟩))
 go_ret
 exact ⟨rfl,hb.trans (hb2.mono hb.size)⟩
end
section
attribute [local go_sem ↓] eu
section
variable (ρ : Operand -> Value) (w : World) (dst : Option Tmp) (x : Operand) (ty : TypeId) (pos : String) (after : Array Edge)
theorem Va (K n:Int) (A:Option Addr) (m c:Nat) (y:Operand) (h0:ρ (.const (.int .i64 K))= .int .i64 K) (h4:ρ x= .int .i64 n) (h6:ρ y= .slice A m c):(execOp ρ { dst:=dst,op:=.build 24 #[(0,.const (.int .i64 K)),(5,x),(6,y)],type:=ty,pos:=pos,after:=after,guard:=none }).run Tryz.prog w= .ok (.value (.agg #[.int .i64 K,.int .i64 0,.int .i64 0,.string ⟨#[]⟩,.string ⟨#[]⟩,.int .i64 n,.slice A m c])) w:=by
 unfold execOp;simp only [List.map_toArray,List.map_cons,List.map_nil,h0,h4,h6];go_simp
theorem YP (q:Nat) (k op m:Int) (p t:List UInt8) (a n c:Nat) (A:Option Addr) (hx:ρ x= .pointer (some ⟨q,0,none⟩)) (hb:ag w q 24 (N7 k op m (bs p) (bs t) a (.slice A n c))):(execOp ρ { dst:=dst,op:=.load 24 x,type:=ty,pos:=pos,after:=after,guard:=none }).run Tryz.prog w= .ok (.value (.agg #[.int .i64 k,.int .i64 op,.int .i64 m,.string (bs p),.string (bs t),.int .i64 a,.slice A n c])) w:=by
 obtain ⟨_,s0,s1,s2,s3,s4,s5,s6,_⟩:=hb.av
 unfold execOp;simp only [hx];go_simp
theorem Ls:(execOp ρ { dst:=dst,op:=.alloc 24,type:=ty,pos:=pos,after:=after,guard:=none }).run Tryz.prog w= .ok (.value (.pointer (some ⟨w.heap.size,0,none⟩))) (w.alloc (.cells #[.int .i64 0,.int .i64 0,.int .i64 0,.string ⟨#[]⟩,.string ⟨#[]⟩,.int .i64 0,.slice none 0 0] 24)):=by
 unfold execOp;go_simp
theorem Vb (v0 v1 v2 v3:Value) (hx:ρ x= .agg #[v0,v1,v2,v3]):(execOp ρ { dst:=dst,op:=.field 53 x 3,type:=ty,pos:=pos,after:=after,guard:=none }).run Tryz.prog w= .ok (.value v3) w:=by
 unfold execOp;simp only [hx];go_simp
end
def NU (b:Nat) (w:World) (B:List PanicEntry->Prop) (D:T->World->Prop) (e:Ending) (w':World):Prop:=
 Gr (·=b) w w'/\((∃c,B c/\e= .panicked c)\/∃x:T,e= .returned (.agg #[.int .i64 x.1.k,.string (bs x.1.t),.int .i64 x.1.n,.int .i64 x.2])/\D x w')
structure JN (b:Nat) (w0:World) (lo:Nat) (X:Nat->Prop) (K:Int) (vb:Value) (tr:Tr) (C:World->Prop) (D:T->World->Prop) (c f l s d al st:Bool) (v3 v4 v5 v6 v7 v8:Value) (w:World):Prop where
 d1:f=true->c=true
 d2:d=true->f=true/\s=true
 d3:st=true->d=true/\al=true
 gr:Gr (·=b) w0 w
 q0:c=false->C w
 q1:c=true->∃x:T,v3=(.agg #[.int .i64 x.1.k,.string (bs x.1.t),.int .i64 x.1.n,.int .i64 x.2])/\(f=true->v4= .int .i64 x.2)/\D x w
 l1:l=true->v5=vb
 s1:s=true->∃g,v6= .slice (some ⟨g,0,none⟩) 1 1/\w0.heap.size<=g/\aI w lo v6 [tr]/\ah w lo X v6 [tr]
 b1:d=true->∃n:Nat,v4= .int .i64 n/\v7= .agg #[.int .i64 K,.int .i64 0,.int .i64 0,.string ⟨#[]⟩,.string ⟨#[]⟩,.int .i64 n,v6]
 a1:al=true->∃z,v8= .pointer (some ⟨z,0,none⟩)/\w0.heap.size<=z/\z < w.heap.size/\(st=false->ag w z 24 Z7)/\(s=true->aN w lo z v6 [tr])/\
  (st=true->ag w z 24 #[.int .i64 K,.int .i64 0,.int .i64 0,.string ⟨#[]⟩,.string ⟨#[]⟩,v4,v6])
theorem rY {a b:Bool} (h:a=true->b=true) (hb:b=false):a=false:=by
 cases a with
 |false=>rfl
 |true=>rw [h rfl] at hb;cases hb
theorem EJ {id:Nat} {a0:Act} {w0:World} {Q:Exit->Act->World->Prop} {ops:Array Oper} {d0 d1 d2 d3 d4 d5 d6 d7 d8 tp tb:Nat} {c3:Call} {y0 y1 y2 y3 y4 y5 y6 y7 y8 y9:TypeId} {p0 p1 p2 p3 p4 p5 p6 p7 p8 p9:String} {Ex af1 af2 Yd af4 Ye UY UZ af8 af9:Array Edge}
  (b lo n q:Nat) (X:Nat->Prop) (K:Int) (k op m:Int) (p t:List UInt8) (a c:Nat) (A:Option Addr) (ks:List Tr) (f:FuncId) (argv:Array Value) (B:List PanicEntry->Prop) (C:World->Prop) (D:T->World->Prop)
  (hops:ops=#[
   { dst:=some d0,op:=.move (.tmp tp),type:=y0,pos:=p0,after:=Ex,guard:=none },
   { dst:=some d1,op:=.nilCheck (.tmp d0),type:=y1,pos:=p1,after:=af1,guard:=none },
   { dst:=some d2,op:=.fieldAddr 43 (.tmp d1) 0,type:=y2,pos:=p2,after:=af2,guard:=none },
   { dst:=some d3,op:=.call c3,type:=y3,pos:=p3,after:=Yd,guard:=none },
   { dst:=some d4,op:=.field 53 (.tmp d3) 3,type:=y4,pos:=p4,after:=af4,guard:=none },
   { dst:=some d5,op:=.load 24 (.tmp tb),type:=y5,pos:=p5,after:=Ye,guard:=none },
   { dst:=some d6,op:=.buildSlice 22 1 #[(0,.tmp d5)],type:=y6,pos:=p6,after:=UY,guard:=none },
   { dst:=some d7,op:=.build 24 #[(0,.const (.int .i64 K)),(5,.tmp d4),(6,.tmp d6)],type:=y7,pos:=p7,after:=UZ,guard:=none },
   { dst:=some d8,op:=.alloc 24,type:=y8,pos:=p8,after:=af8,guard:=none },
   { dst:=none,op:=.store 24 (.tmp d8) (.tmp d7),type:=y9,pos:=p9,after:=af9,guard:=none }])
  (hB:preB ops 10=true) (hn:a0.tmps.size=n) (hin:Ux ops 10 n=true) (hnp:zn ops tp=true) (hnb:zn ops tb=true) (hr:Region.ready .any ops (nU 10 10)=[])
  (e10:dep ops 1 0=true) (e21:dep ops 2 1=true) (e32:dep ops 3 2=true) (e43:dep ops 4 3=true) (e65:dep ops 6 5=true) (e74:dep ops 7 4=true) (e76:dep ops 7 6=true) (e98:dep ops 9 8=true) (e97:dep ops 9 7=true)
  (hrun:∀(a:Act) (w:World),a.eval (.tmp d2)= .pointer (some ⟨b,0,none⟩)->(execOp a.eval { dst:=some d3,op:=.call c3,type:=y3,pos:=p3,after:=Yd,guard:=none }).run Tryz.prog w= .ok (.enter f argv) w)
  (htp:a0.eval (.tmp tp)= .pointer (some ⟨b,0,none⟩)) (htb:a0.eval (.tmp tb)= .pointer (some ⟨q,0,none⟩))
  (hbq:ag w0 q 24 (N7 k op m (bs p) (bs t) a (.slice A ks.length c))) (hqb:q≠b) (hK:aI w0 lo (.slice A ks.length c) ks) (yz:ah w0 lo X (.slice A ks.length c) ks) (hzl:∀q,X q->q < w0.heap.size) (hbl:b < lo) (hlo:lo<=w0.heap.size)
  (hC:Calm w0.heap.size C) (hC0:C w0) (hD:∀x,Calm w0.heap.size (D x)) (hcall:∀w,C w->Calls Tryz.prog f argv w (NU b w B D))
  (hbad:∀(a:Act) (w':World) (c:List PanicEntry),a.defers=a0.defers->B c->Gr (·=b) w0 w'->Q (.panic c) a w')
  (hnext:∀(vals:Nat->Value) (w':World) (x:T) (z g:Nat),vals 8= .pointer (some ⟨z,0,none⟩)->w0.heap.size<=z->w0.heap.size<=g->D x w'->Gr (·=b) w0 w'->ag w' z 24 (N7 K 0 0 ⟨#[]⟩ ⟨#[]⟩ x.2 (.slice (some ⟨g,0,none⟩) 1 1))->aN w' lo z (.slice (some ⟨g,0,none⟩) 1 1) [.mk k op m p t a ks]->ah w' lo X (.slice (some ⟨g,0,none⟩) 1 1) [.mk k op m p t a ks]->
   Q .normal (bG vals (ops.toList.take 10) 0 a0) w'):
  (Code.region id ops true).wp Tryz.prog Q a0 w0:=by
 have np:=fD hnp
 have nb:=fD hnb
 have hsz:ops.size=10:=by rw [hops];rfl
 have hSz:∀g,lo<=g->¬X g->g < w0.heap.size->¬g=b:=fun g h1 _ _ h2=>by omega
 have hS:∀g,lo<=g->g < w0.heap.size->¬g=b:=fun g h1 _ h2=>by omega
 have wz:∀{w w':World} {z:Nat},w0.heap.size<=z->Gr (·=z) w w'->Gr (fun k=>w0.heap.size<=k) w w':=fun hz h=>h.mono fun k _ hk=>by have:k=_:=hk;omega
 refine rE 10 (by kernel_rfl) hB (fun L vals w=>(L 0=true->vals 0= .pointer (some ⟨b,0,none⟩))/\(L 1=true->vals 1= .pointer (some ⟨b,0,none⟩))/\(L 2=true->vals 2= .pointer (some ⟨b,0,none⟩))/\JN b w0 lo X K (.agg #[.int .i64 k,.int .i64 op,.int .i64 m,.string (bs p),.string (bs t),.int .i64 a,.slice A ks.length c]) (.mk k op m p t a ks) C D (L 3) (L 4) (L 5) (L 6) (L 7) (L 8) (L 9) (vals 3) (vals 4) (vals 5) (vals 6) (vals 7) (vals 8) w) ?_ ?_ n hn hin ?_ ?_
 ·intro L L' vals w hL j
  simp only [<-hL 0 (by omega),<-hL 1 (by omega),<-hL 2 (by omega),<-hL 3 (by omega),<-hL 4 (by omega),<-hL 5 (by omega),<-hL 6 (by omega),<-hL 7 (by omega),<-hL 8 (by omega),<-hL 9 (by omega)]
  exact j
 ·intro vals
  exact ⟨nofun,nofun,nofun,nofun,nofun,nofun,(Gr.refl _).drew,fun _=>hC.drew hC0,nofun,nofun,nofun,nofun,nofun⟩
 ·intro i o ho hi a' w L vals j vB had hun hev rG K0 hK2
  obtain ⟨j0,j1,j2,j⟩:=j
  subst hops
  have hdp:∀i':Nat,i' < 10->dep _ i i'=true->L i'=true:=fun i' _ hd=>by
   obtain ⟨e,he,hon,hb⟩:=vG hd ho
   have:=rG e he hb
   rwa [hon] at this
  have gs:=j.gr.size
  rcases (show i=0\/i=1\/i=2\/i=3\/i=4\/i=5\/i=6\/i=7\/i=8\/i=9 by omega) with rfl|rfl|rfl|rfl|rfl|rfl|rfl|rfl|rfl|rfl
  ·obtain rfl:=Option.some.inj ho
   exact aY (qd _ _ _ _ _ _ _ _ ((hun tp np).trans htp)) (hK2 _ _ ⟨fun _=>rfl,j1,j2,j⟩)
  ·obtain rfl:=Option.some.inj ho
   have l0:=hdp 0 (by omega) e10
   exact aY (AU _ _ _ _ _ _ _ _ ((hev 0 _ _ (by omega) rfl rfl l0).trans (j0 l0))) (hK2 _ _ ⟨j0,fun _=>rfl,j2,j⟩)
  ·obtain rfl:=Option.some.inj ho
   have l1:=hdp 1 (by omega) e21
   exact aY (xy _ _ _ _ _ _ _ _ ((hev 1 _ _ (by omega) rfl rfl l1).trans (j1 l1))) (hK2 _ _ ⟨j0,j1,fun _=>rfl,j⟩)
  ·
   obtain rfl:=Option.some.inj ho
   have l2:=hdp 2 (by omega) e32
   have l4:=rY j.d1 vB
   have l7:L 7=false:=rY (fun h=>(j.d2 h).1) l4
   have l9:L 9=false:=rY (fun h=>(j.d3 h).1) l7
   refine fP (hrun a' _ ((hev 2 _ _ (by omega) rfl rfl l2).trans (j2 l2))) ((hcall w (j.q0 vB)).mono ?_)
   rintro e w1 ⟨hg,⟨c,hbc,rfl⟩|⟨x,rfl,hd1⟩⟩
   ·exact hbad a' w1 c had hbc (j.gr.trans hg)
   ·have g1:=j.gr.trans hg
    refine hK2 _ _ ⟨j0,j1,j2,fun _=>rfl,j.d2,j.d3,g1,nofun,fun _=>⟨x,rfl,fun h=>?_,hd1⟩,j.l1,fun h=>?_,j.b1,fun h=>?_⟩
    ·rw [show upd L 3 true 4=L 4 from rfl,l4] at h;cases h
    ·obtain ⟨g,h1,h2⟩:=j.s1 h
     exact ⟨g,h1,h2.1,h2.2.1.call hg hbl,h2.2.2.call hg hbl⟩
    ·obtain ⟨z,h1,h2,h3,h4,h5,_⟩:=j.a1 h
     exact ⟨z,h1,h2,Nat.lt_of_lt_of_le h3 hg.size,fun h9=>(h4 h9).call hg (by omega),fun h9=>(h5 h9).call hg hbl,fun h9=>(by rw [show upd L 3 true 9=L 9 from rfl,l9] at h9;cases h9)⟩
  ·
   obtain rfl:=Option.some.inj ho
   have l3:=hdp 3 (by omega) e43
   have l7:L 7=false:=rY (fun h=>(j.d2 h).1) vB
   have l9:L 9=false:=rY (fun h=>(j.d3 h).1) l7
   obtain ⟨x,h1,_,h3⟩:=j.q1 l3
   refine aY (Vb _ _ _ _ _ _ _ _ _ _ _ ((hev 3 _ _ (by omega) rfl rfl l3).trans h1)) (hK2 _ _ ⟨j0,j1,j2,fun _=>l3,fun h=>?_,j.d3,j.gr,j.q0,fun _=>⟨x,h1,fun _=>rfl,h3⟩,j.l1,j.s1,fun h=>?_,fun h=>?_⟩)
   ·rw [show upd L 4 true 7=L 7 from rfl,l7] at h;cases h
   ·rw [show upd L 4 true 7=L 7 from rfl,l7] at h;cases h
   ·obtain ⟨z,h1,h2,h3,h4,h5,_⟩:=j.a1 h
    exact ⟨z,h1,h2,h3,h4,h5,fun h9=>(by rw [show upd L 4 true 9=L 9 from rfl,l9] at h9;cases h9)⟩
  ·
   obtain rfl:=Option.some.inj ho
   exact aY (YP _ _ _ _ _ _ _ q k op m p t a ks.length c A ((hun tb nb).trans htb) (hbq.gr j.gr (by omega))) (hK2 _ _ ⟨j0,j1,j2,j.d1,j.d2,j.d3,j.gr,j.q0,j.q1,fun _=>rfl,j.s1,j.b1,j.a1⟩)
  ·
   obtain rfl:=Option.some.inj ho
   have l5:=hdp 5 (by omega) e65
   have l7:L 7=false:=rY (fun h=>(j.d2 h).2) vB
   have l9:L 9=false:=rY (fun h=>(j.d3 h).1) l7
   have hKw:aI w lo (.slice A ks.length c) ks:=hK.gr j.gr hS
   have wW:=aI.lit (n:=1) (bO.single (hKw.rep k op m p t a)) (Nat.le_trans hlo gs) (by simp [maxLen]) rfl
   refine aY (Ih _ _ _ _ _ _ _ _ _ _ _ _ _ A ks.length c ((hev 5 _ _ (by omega) rfl rfl l5).trans (j.l1 l5))) (hK2 _ _ ⟨j0,j1,j2,j.d1,fun h=>?_,j.d3,j.gr.alloc _,fun h=>hC.alloc (j.q0 h) _,fun h=>?_,j.l1,fun _=>⟨_,rfl,gs,wW,ah.lI (yz.gr j.gr hSz) (Nat.le_trans hlo gs) (fun q hq=>by have:=hzl q hq;omega)⟩,fun h=>?_,fun h=>?_⟩)
   ·rw [show upd L 6 true 7=L 7 from rfl,l7] at h;cases h
   ·obtain ⟨x,h1,h2,h3⟩:=j.q1 h
    exact ⟨x,h1,h2,(hD x).alloc h3 _⟩
   ·rw [show upd L 6 true 7=L 7 from rfl,l7] at h;cases h
   ·obtain ⟨z,h1,h2,h3,h4,_,_⟩:=j.a1 h
    refine ⟨z,h1,h2,by simp;omega,fun h9=>(h4 h9).alloc _,fun _=>?_,fun h9=>(by rw [show upd L 6 true 9=L 9 from rfl,l9] at h9;cases h9)⟩
    have hzx:aN (w.alloc (.cells #[.int .i64 k,.int .i64 op,.int .i64 m,.string (bs p),.string (bs t),.int .i64 a,.slice A ks.length c] 24)) lo z (.slice (some ⟨w.heap.size,0,none⟩) 1 1) [.mk k op m p t a ks]:=by
     have hx0:aI w0 lo (.slice A ks.length c) ks:=hK
     have hrep:nW w (fun g=>lo<=g/\g≠z) (.mk k op m p t a ks) (GG k op m p t a (.slice A ks.length c)):=
      nW.keep (fun g hg hlt=>j.gr.block g hlt (by show ¬g=b;omega)) gs (fun g hlt hg=>⟨hg,by omega⟩) _ _ (nW.keep (F':=fun g=>lo<=g) (fun _ _ _=>rfl) (Nat.le_refl _) (fun g _ hg=>hg) _ _ (hx0.rep k op m p t a))
     refine ⟨by simp only [Value.ownBlock,ne_eq,Option.some.injEq];omega,_,World.ownsRow_lit w #[.int .i64 k,.int .i64 op,.int .i64 m,.string (bs p),.string (bs t),.int .i64 a,.slice A ks.length c] _ (Nat.le_trans hlo gs) (by simp [maxLen]) (by rfl),?_⟩
     refine bO.keep (fun g _ hg=>Below.heap_alloc w _ g hg) (by simp) (fun g hlt hg=>⟨hg.1,?_,hg.2⟩) _ _ (bO.single hrep)
     simp only [Value.ownBlock,ne_eq,Option.some.injEq]
     omega
    exact hzx
  ·
   obtain rfl:=Option.some.inj ho
   have l4:=hdp 4 (by omega) e74
   have l6:=hdp 6 (by omega) e76
   have l9:L 9=false:=rY (fun h=>(j.d3 h).1) vB
   obtain ⟨x,_,h2,_⟩:=j.q1 (j.d1 l4)
   obtain ⟨g,h4,_⟩:=j.s1 l6
   refine aY (Va _ _ _ _ _ _ _ K x.2 (some ⟨g,0,none⟩) 1 1 _ rfl ((hev 4 _ _ (by omega) rfl rfl l4).trans (h2 l4)) ((hev 6 _ _ (by omega) rfl rfl l6).trans h4)) (hK2 _ _ ⟨j0,j1,j2,j.d1,fun _=>⟨l4,l6⟩,fun h=>?_,j.gr,j.q0,j.q1,j.l1,j.s1,fun _=>⟨x.2,h2 l4,by rw [show upd vals 7 _ 6=vals 6 from rfl,h4];rfl⟩,j.a1⟩)
   rw [show upd L 7 true 9=L 9 from rfl,l9] at h;cases h
  ·
   obtain rfl:=Option.some.inj ho
   have l9:L 9=false:=rY (fun h=>(j.d3 h).2) vB
   refine aY (Ls _ _ _ _ _ _) (hK2 _ _ ⟨j0,j1,j2,j.d1,j.d2,fun h=>?_,j.gr.alloc _,fun h=>hC.alloc (j.q0 h) _,fun h=>?_,j.l1,fun h=>?_,j.b1,fun _=>⟨_,rfl,gs,by simp,fun _=>ag.new _ _ _,fun h=>?_,fun h9=>(by rw [show upd L 8 true 9=L 9 from rfl,l9] at h9;cases h9)⟩⟩)
   ·rw [show upd L 8 true 9=L 9 from rfl,l9] at h;cases h
   ·obtain ⟨x,h1,h2,h3⟩:=j.q1 h
    exact ⟨x,h1,h2,(hD x).alloc h3 _⟩
   ·obtain ⟨g,h1,h2⟩:=j.s1 h
    exact ⟨g,h1,h2.1,h2.2.1.alloc _,h2.2.2.alloc _⟩
   ·obtain ⟨g,_,h2⟩:=j.s1 h
    exact h2.2.1.fresh rfl _
  ·
   obtain rfl:=Option.some.inj ho
   have l8:=hdp 8 (by omega) e98
   have l7:=hdp 7 (by omega) e97
   obtain ⟨l4,l6⟩:=j.d2 l7
   obtain ⟨x,h1,h2,h3⟩:=j.q1 (j.d1 l4)
   obtain ⟨g,h4,h5⟩:=j.s1 l6
   obtain ⟨z,z1,z2,z3,z4,z5,_⟩:=j.a1 l8
   obtain ⟨nn,hb1,hb2⟩:=j.b1 l7
   have Lt:=z5 l6
   have hsz2:∀{w':World},Gr (·=z) w w'->ah w' lo X (vals 6) [.mk k op m p t a ks]:=fun hg=>aN.gr2 Lt h5.2.2 hg
   rw [h4] at hb2
   refine Ci _ _ K 0 0 [] [] nn 1 1 (some ⟨g,0,none⟩) ((hev 8 _ _ (by omega) rfl rfl l8).trans z1) ((hev 7 _ _ (by omega) rfl rfl l7).trans hb2) (z4 vB) fun w' hz hg=>?_
   have gw:=wz z2 hg
   refine hK2 _ _ ⟨j0,j1,j2,j.d1,j.d2,fun _=>⟨l7,l8⟩,j.gr.wide hg (fun k hk he=>by have:k=z:=he;omega),fun h=>hC _ _ (j.q0 h) gw,fun _=>⟨x,h1,h2,hD x _ _ h3 gw⟩,j.l1,fun _=>⟨g,h4,h5.1,(Lt.gr hg fun g' _ hne _ he=>hne he).kid,hsz2 hg⟩,j.b1,fun _=>⟨z,z1,z2,Nat.lt_of_lt_of_le z3 hg.size,nofun,fun _=>Lt.gr hg fun g' _ hne _ he=>hne he,fun _=>?_⟩⟩
   rw [show upd vals 9 undef 4=vals 4 from rfl,show upd vals 9 undef 6=vals 6 from rfl,hb1,h4]
   exact hz
 ·intro vals w a' ha _ _ _ _ j
  obtain ⟨_,_,_,j⟩:=j
  obtain ⟨x,_,h2,h3⟩:=j.q1 rfl
  obtain ⟨g,h4,h5⟩:=j.s1 rfl
  obtain ⟨z,z1,z2,_,_,z5,z6⟩:=j.a1 rfl
  have Sv:=z6 rfl
  have Lt:=z5 rfl
  rw [h2 rfl,h4] at Sv
  rw [h4] at Lt
  have Nt:=h5.2.2
  rw [h4] at Nt
  have:=hnext vals w x z g z1 z2 h5.1 h3 j.gr Sv Lt Nt
  rw [<-ha] at this
  rw [hsz]
  exact sQ hr this
def Io (E:Env) (o:Nat) (f:T->List T->R) (r:R) (x:T) (w:World):Prop:=∃l,f x l=r/\PS E w l o
theorem zN (E:Env) (lo o:Nat) (f:T->List T->R) (r:R) (hb:E.b < lo) (hg:E.g < lo) (x:T):Calm lo (Io E o f r x):=fun w w' h hgr=>by
 obtain ⟨l,h1,h2⟩:=h
 exact ⟨l,h1,oV E lo l o hb hg _ _ h2 hgr⟩
theorem Vd {E:Env} {w w':World} {o:Nat} {f:T->List T->R} {r:R} {e:Ending} (h:UU E w o f r e w'):NU E.b w (oO r) (Io E o f r) e w':=by
 obtain ⟨h1,⟨a,k,h2,h3⟩|⟨x,l,h2,h3,h4⟩⟩:=h
 ·exact ⟨h1,.inl ⟨_,⟨a,k,h2,rfl⟩,h3⟩⟩
 ·exact ⟨h1,.inr ⟨x,h2,l,h3,h4⟩⟩
theorem Lu {E:Env} {w:World} {x:T} {t:List T} {o:Nat} {f:T->List T->R} {r:R} (h:PS E w (x :: t) o) (hq:f x (x :: t)=r):Calls Tryz.prog 21 #[.pointer (some ⟨E.b,0,none⟩)] w (NU E.b w (oO r) (Io E o f r)):=
 (iO E w x t o h).mono fun _ _ ⟨h1,h2⟩=>⟨Gr.of_below h2,.inr ⟨x,h1,_,hq,h.below h2⟩⟩
end
section
attribute [local go_sem ↓] eO eP eT eu
theorem Sw (n:Nat) (hn:n<=cK) (H:∀m,m<=n->ku m):CC (n+1):=by
 intro E w l o lo X g r k op m p t a ks A c hP hbl hgl hlo hX hK hq hr
 simp only [go,fC,dG,dM] at hq
 have hlt:=hP.lt
 have hgt:=hP.toks.lt
 have HR:=af hr
 have Hn:=H n (Nat.le_refl _)
 clear hr
 obtain ⟨x1,l1,rfl⟩:=hP.cons
 rw [bH] at hq
 have fZ:=af hq
 clear hq
 go_enter Tryz.func127,Tryz.ntmps127
 go_wp2
 have ZN:=hK.kid
 obtain ⟨w1,hW⟩:=uj ((w.alloc (.cells #[.int .i64 k,.int .i64 op,.int .i64 m,.string (bs p),.string (bs t),.int .i64 a,.slice A ks.length c] 24)).alloc (.cells #[.int .i64 0,.int .i64 0,.int .i64 0,.string ⟨#[]⟩,.string ⟨#[]⟩,.int .i64 0,.slice none 0 0] 24))
 have hP1:PS E w1 (x1 :: l1) o:=by rw [hW];exact aO
 have hG1:Gr (·=E.b) w w1:=by rw [hW];exact aJ
 have Da:ag w1 w.heap.size 24 (N7 k op m (bs p) (bs t) a (.slice A ks.length c)):=by rw [hW];exact bz
 have az:ag w1 (w.heap.size+1) 24 Z7:=by rw [hW];exact bz
 have Db:aI w1 lo (.slice A ks.length c) ks:=by rw [hW];exact nS
 have hy1:=hW
 have hw1:w1.heap.size=w.heap.size+2:=by rw [hW];simp
 rw [<-hW]
 have kW:=hP1.lt
 have oP:=hP1.toks.lt
 clear hW
 have Lv:ah w1 lo (fun q=>X q\/q=w.heap.size+1) (.slice A ks.length c) ks:=by rw [hy1];exact ((hK.or (Nat.le_succ _)).alloc _).alloc _
 clear hy1
 refine EJ E.b lo 26 w.heap.size (fun q=>X q\/q=w.heap.size+1) 33 k op m p t a c A ks 21 #[.pointer (some ⟨E.b,0,none⟩)] (oO r) (fun W=>PS E W (x1 :: l1) o) (Io E o _ r) rfl (by kernel_rfl) rfl (by kernel_rfl) (by kernel_rfl) (by kernel_rfl) (by kernel_rfl) (by kernel_rfl) (by kernel_rfl) (by kernel_rfl) (by kernel_rfl) (by kernel_rfl) (by kernel_rfl) (by kernel_rfl) (by kernel_rfl) (by kernel_rfl)
  (fun a w h=>by simp [Act.eval] at h;unfold execOp;go_simp) rfl rfl Da (by omega) Db Lv (fun q hq=>hq.elim (fun h=>by have:=hX q h;omega) (fun h=>by omega)) (by omega) (by omega) (oV E _ _ o (by omega) (by omega)) hP1 (zN E _ o _ r (by omega) (by omega)) (fun W hW=>Lu (f:=fun x q=>bnd (go n (.within [40] [41] .expr) q o) fun bN q2=>g (nd 33 x.2 ((Tr.mk k op m p t a ks) :: bN.kids)) q2) hW fZ.out) ?_ ?_
 ·rintro a w' c had ⟨at_,k,hb,rfl⟩ hg
  exact And.intro had ⟨hG1.trans hg,.inl ⟨_,_,hb,rfl⟩⟩
 rintro vals w2 x2 zz gg Ve hzz hgg ⟨l2,hq2,hP2⟩ hg2 bq kY Vf
 have hG2:Gr (·=E.b) w w2:=hG1.trans hg2
 have ax:ag w2 (w.heap.size+1) 24 Z7:=az.gr hg2 (by omega)
 have jT:=ax.lt
 have adu:=bq.lt
 dsimp only [bG,List.take_succ_cons,List.take_zero,List.take_nil]
 rw [Ve]
 have EK:∀q,(Value.slice (some ⟨gg,0,none⟩) 1 1).ownBlock=some q->w.heap.size+2<=q:=fun q hq=>by simp only [Value.ownBlock,Option.some.injEq] at hq;have:w1.heap.size=w.heap.size+2:=hw1;omega
 have adv:w.heap.size+2<=zz:=by have:w1.heap.size=w.heap.size+2:=hw1;omega
 clear Ve Da Db hg2 hzz hgg
 have fJ:=af hq2
 clear hq2
 go_wp2
 obtain ⟨_,_,_,_,_,_,_,sG,uE⟩:=bq.av
 refine Ch 8 6 7 1 E.b lo zz (fun q=>X q\/q=w.heap.size+1) 26 (fun i=>match i with|0=>.pointer (some ⟨zz,6,none⟩)|1=>.slice (some ⟨gg,0,none⟩) 1 1|2=>.pointer (some ⟨E.b,0,none⟩)|3=>.pointer (some ⟨E.b,0,none⟩)|4=>.pointer (some ⟨E.b,0,none⟩)|5=>.func (Fn.func 62) #[.pointer (some ⟨E.b,0,none⟩)] #[]|_=>undef) (.slice (some ⟨gg,0,none⟩) 1 1) [Tr.mk k op m p t a ks] 91 #[.pointer (some ⟨E.b,0,none⟩),.string ⟨#[40]⟩,.string ⟨#[41]⟩,.func (Fn.func 62) #[.pointer (some ⟨E.b,0,none⟩)] #[]] (oO r) (Cg E o _ r) (by kernel_rfl) rfl (by kernel_rfl) (by decide) (by decide) (by decide) (by decide) (by decide) (by decide) rfl rfl rfl rfl ⟨_,rfl,rfl⟩ rfl (by kernel_rfl) (by kernel_rfl) rfl
  (fun a w hev=>by
   have e4:=hev 4 _ _ (by omega) rfl rfl (by kernel_rfl) (by omega) (by omega)
   have e5:=hev 5 _ _ (by omega) rfl rfl (by kernel_rfl) (by omega) (by omega)
   simp [Act.eval] at e4 e5
   unfold execOp;go_simp)
  (fun i o hoi hi h1 h2 a w hcw hun hev=>by
   rcases (show i=0\/i=1\/i=2\/i=3\/i=4\/i=5\/i=6\/i=7 by omega) with rfl|rfl|rfl|rfl|rfl|rfl|rfl|rfl
   ·obtain rfl:=Option.some.inj hoi;exact sZ _ _ _ _ _ _ _ _ ((hun 7 (fD (by kernel_rfl))).trans rfl)
   ·obtain rfl:=Option.some.inj hoi;exact vF _ _ _ _ _ _ _ _ 6 _ (hev 0 _ _ (by omega) rfl rfl (by kernel_rfl)) hcw
   ·obtain rfl:=Option.some.inj hoi;exact qd _ _ _ _ _ _ _ _ ((hun 0 (fD (by kernel_rfl))).trans rfl)
   ·obtain rfl:=Option.some.inj hoi;exact AU _ _ _ _ _ _ _ _ (hev 2 _ _ (by omega) rfl rfl (by kernel_rfl))
   ·obtain rfl:=Option.some.inj hoi;exact xy _ _ _ _ _ _ _ _ (hev 3 _ _ (by omega) rfl rfl (by kernel_rfl))
   ·obtain rfl:=Option.some.inj hoi;exact qd _ _ _ _ _ _ _ _ ((hun 2 (fD (by kernel_rfl))).trans rfl)
   ·exact absurd rfl h1
   ·exact absurd rfl h2)
  (fun i hi h1 h2=>by
   rcases (show i=0\/i=1\/i=2\/i=3\/i=4\/i=5\/i=6\/i=7 by omega) with rfl|rfl|rfl|rfl|rfl|rfl|rfl|rfl <;> first|exact absurd rfl h1|exact absurd rfl h2|exact ⟨by kernel_rfl,by kernel_rfl⟩) ⟨by kernel_rfl,by kernel_rfl⟩
  rfl (by decide) (by decide) rfl rfl (by kernel_rfl) (by kernel_rfl) (by kernel_rfl) (by kernel_rfl) rfl kY Vf (fun q hq=>hq.elim (fun h=>by have:=hX q h;omega) (fun h=>by omega)) sG (uE 6) (by omega) (by omega) (by omega) (by omega) (by simp [cK]) (uk E _ o _ r (by omega) (by omega))
  ((Hn.within .expr E _ l2 o [40] [41] _ _ _ r _ rfl hP2.drew rfl rfl (by simp) (by simp) fJ.out HR.out).mono fun e w' h=>Jn h) ?_ ?_
 ·rintro a w' c had ⟨at_,k,hb,rfl⟩ hg
  exact And.intro had ⟨hG2.trans hg,.inl ⟨_,_,hb,rfl⟩⟩
 rintro vals w' A3 c3 us ⟨l3,hq3,yO⟩ agM hKx yz hgx eB
 obtain ⟨w3,hW⟩:=uj (w'.setCell ⟨zz,6,none⟩ (.slice A3 ([Tr.mk k op m p t a ks] ++ us).length c3))
 have hP3:PS E w3 l3 o:=by rw [hW];exact aO
 have hsx:=hgx.size
 have hG3:Gr (·=E.b) w w3:=by rw [hW];exact Gr.setCell (jD hG2 eB (fun q hq=>by have:=EK q hq;omega)) (.inl (by first|(simp;done)|(simp;omega))) _
 have aF:ag w3 (w.heap.size+1) 24 Z7:=by rw [hW];exact ag.far (ag.wx ax eB (by omega) (fun e=>by have:=EK _ e;omega)) (by first|(simp;done)|(simp;omega)) _
 have aM:ag w3 zz 24 (N7 33 0 0 ⟨#[]⟩ ⟨#[]⟩ x2.2 (.slice A3 ([Tr.mk k op m p t a ks] ++ us).length c3)):=by rw [hW];exact ag.jC (ag.wr bq hgx (by omega) (.inr rfl)) _
 have Dc:ah w3 lo (fun q=>X q\/q=w.heap.size+1) (.slice A3 ([Tr.mk k op m p t a ks] ++ us).length c3) ([Tr.mk k op m p t a ks] ++ us):=by rw [hW];exact aN.set2 hKx yz rfl _
 dsimp only [bG,List.take_succ_cons,List.take_zero,List.take_nil]
 rw [<-hW]
 clear hW yO hKx yz hgx eB hsx
 have kE:=af hq3
 clear hq3
 obtain ⟨_,yP,Jr,EL,Jp,GL,GM,sH,_⟩:=aM.av
 obtain ⟨_,vM,wQ,wR,wS,wT,wU,wV,vN⟩:=aF.av
 go_wp2
 have Uy:=agM
 unfold cK at Uy
 exact aX Tryz.results127 rfl rfl dS ⟨aJ,.inr ⟨33,0,0,[],[],x2.2,([Tr.mk k op m p t a ks] ++ us),A3,c3,l3,rfl,kE.out,ah.sub (X:=fun q=>X q\/q=w.heap.size+1) (v:=.slice A3 ([Tr.mk k op m p t a ks] ++ us).length c3) (ks:=([Tr.mk k op m p t a ks] ++ us)) nR (fun q hq _=>.inl hq),(by simp [cK];omega),aO⟩⟩
theorem GN (n:Nat) (hn:n<=cK) (H:∀m,m<=n->ku m):CT (n+1) 129 .lZ:=by
 intro E w l o lo X g r k op m p t a ks A c hP hbl hgl hlo hX hK hq hr
 simp only [go,mg,eH,jr,eD,dG,dM] at hq
 have hlt:=hP.lt
 have hgt:=hP.toks.lt
 have HR:=af hr
 have Hn:=H n (Nat.le_refl _)
 clear hr
 have fZ:=af hq
 clear hq
 go_enter Tryz.func129,Tryz.ntmps129
 go_wp2
 have ZN:=hK.kid
 obtain ⟨w1,hW⟩:=uj ((w.alloc (.cells #[.int .i64 k,.int .i64 op,.int .i64 m,.string (bs p),.string (bs t),.int .i64 a,.slice A ks.length c] 24)).alloc (.cells #[.int .i64 0,.int .i64 0,.int .i64 0,.string ⟨#[]⟩,.string ⟨#[]⟩,.int .i64 0,.slice none 0 0] 24))
 have hP1:PS E w1 l o:=by rw [hW];exact aO
 have hG1:Gr (·=E.b) w w1:=by rw [hW];exact aJ
 have Da:ag w1 w.heap.size 24 (N7 k op m (bs p) (bs t) a (.slice A ks.length c)):=by rw [hW];exact bz
 have az:ag w1 (w.heap.size+1) 24 Z7:=by rw [hW];exact bz
 have Db:aI w1 lo (.slice A ks.length c) ks:=by rw [hW];exact nS
 have hy1:=hW
 have hw1:w1.heap.size=w.heap.size+2:=by rw [hW];simp
 rw [<-hW]
 have kW:=hP1.lt
 have oP:=hP1.toks.lt
 clear hW
 have Lv:ah w1 lo (fun q=>X q\/q=w.heap.size+1) (.slice A ks.length c) ks:=by rw [hy1];exact ((hK.or (Nat.le_succ _)).alloc _).alloc _
 clear hy1
 refine EJ E.b lo 43 w.heap.size (fun q=>X q\/q=w.heap.size+1) 36 k op m p t a c A ks 18 #[.pointer (some ⟨E.b,0,none⟩),.string ⟨#[46]⟩] (oO r) (fun W=>PS E W l o) (Io E o _ r) rfl (by kernel_rfl) rfl (by kernel_rfl) (by kernel_rfl) (by kernel_rfl) (by kernel_rfl) (by kernel_rfl) (by kernel_rfl) (by kernel_rfl) (by kernel_rfl) (by kernel_rfl) (by kernel_rfl) (by kernel_rfl) (by kernel_rfl) (by kernel_rfl)
  (fun a w h=>by simp [Act.eval] at h;unfold execOp;go_simp) rfl rfl Da (by omega) Db Lv (fun q hq=>hq.elim (fun h=>by have:=hX q h;omega) (fun h=>by omega)) (by omega) (by omega) (oV E _ _ o (by omega) (by omega)) hP1 (zN E _ o _ r (by omega) (by omega)) (fun W hW=>(bT E W l o [46] ⟨#[46]⟩ _ _ hW rfl (by simp) fZ.out).mono fun e w2 h=>Vd h) ?_ ?_
 ·rintro a w' c had ⟨at_,k,hb,rfl⟩ hg
  exact And.intro had ⟨hG1.trans hg,.inl ⟨_,_,hb,rfl⟩⟩
 rintro vals w2 x2 zz gg Ve hzz hgg ⟨l2,hq2,hP2⟩ hg2 bq kY Vf
 have hG2:Gr (·=E.b) w w2:=hG1.trans hg2
 have ax:ag w2 (w.heap.size+1) 24 Z7:=az.gr hg2 (by omega)
 dsimp only [bG,List.take_succ_cons,List.take_zero,List.take_nil]
 rw [Ve]
 have EK:∀q,(Value.slice (some ⟨gg,0,none⟩) 1 1).ownBlock=some q->w.heap.size+2<=q:=fun q hq=>by simp only [Value.ownBlock,Option.some.injEq] at hq;have:w1.heap.size=w.heap.size+2:=hw1;omega
 have adv:w.heap.size+2<=zz:=by have:w1.heap.size=w.heap.size+2:=hw1;omega
 clear Ve Da Db hg2 hzz hgg
 have fJ:=af hq2
 clear hq2
 go_wp2_with fail
 by_cases hm:mark l2=[40]
 ·skip
  have eY:=fJ.out
  rw [if_pos hm] at eY
  have HM:=af hm
  clear fJ hm
  have fJ:=af eY
  clear eY
  go_wp2_with (first
   |(go_at_call 37;refine (aH E _ l2 o aO).mono ?_;rw [HM.out,show bs [40]=⟨#[40]⟩ from rfl];rintro e w3 ⟨rfl,hg3⟩;have hP3:PS E w3 l2 o:=PS.below aO hg3;have hG3:=aL hG2 hg3;have aF:=bV ax hg3;have aM:ag w3 zz 24 (N7 36 0 0 ⟨#[]⟩ ⟨#[]⟩ x2.2 (.slice (some ⟨gg,0,none⟩) 1 1)):=ag.aC bz hg3;obtain ⟨_,yP,_,_,_,_,_,_,pg⟩:=aM.av;have kX:aN w3 lo zz (.slice (some ⟨gg,0,none⟩) 1 1) [Tr.mk k op m p t a ks]:=aN.aC oZ hg3;have Dc:ah w3 lo (fun q=>X q\/q=w.heap.size+1) (.slice (some ⟨gg,0,none⟩) 1 1) [Tr.mk k op m p t a ks]:=ah.aC nR hg3))
  obtain ⟨w4,hW⟩:=uj (w3.setCell ⟨zz,0,none⟩ (.int .i64 37))
  have qm:PS E w4 l2 o:=by rw [hW];exact aO
  have hG4:Gr (·=E.b) w w4:=by rw [hW];exact aJ
  have aK:ag w4 (w.heap.size+1) 24 Z7:=by rw [hW];exact bz
  have aW:ag w4 zz 24 (N7 37 0 0 ⟨#[]⟩ ⟨#[]⟩ x2.2 (.slice (some ⟨gg,0,none⟩) 1 1)):=by rw [hW];exact bz
  have qo:aN w4 lo zz (.slice (some ⟨gg,0,none⟩) 1 1) [Tr.mk k op m p t a ks]:=by rw [hW];exact oZ
  have Ip:ah w4 lo (fun q=>X q\/q=w.heap.size+1) (.slice (some ⟨gg,0,none⟩) 1 1) [Tr.mk k op m p t a ks]:=by rw [hW];exact aN.set2 kX Dc rfl _
  rw [<-hW]
  clear hW
  go_wp2_with (first
   |(go_at_call 65;(with_reducible refine (kN E _ l2 o [40] ⟨#[40]⟩ _ _ aO rfl (by simp) fJ.out).mono ?_);rintro e w5 ⟨hg5,⟨a,k,hb,rfl⟩|⟨x5,l5,rfl,rC,wX⟩⟩;exact iG (Gr.trans aJ hg5) hb;have iw:=bQ hG4 hg5;have yQ:=af rC;clear rC;have Js:=wX.lt;have Jt:=wX.toks.lt;have aT:=aD aK hg5;have EN:=aT.lt;have aR:=aD aW hg5;have wI:=aR.lt;have rZ:aN w5 lo zz (.slice (some ⟨gg,0,none⟩) 1 1) [Tr.mk k op m p t a ks]:=rO hg5;have Bc:=dU Ip hg5))
  obtain ⟨_,_,_,_,_,_,_,yR,zO⟩:=aR.av
  refine dD E.b lo zz (.pointer (some ⟨E.b,0,none⟩)) 88 #[.pointer (some ⟨E.b,0,none⟩)] _ _ rZ Bc (fun q hq=>hq.elim (fun h=>by have:=hX q h;omega) (fun h=>by omega)) yR (zO 6) (by omega) (by omega) (by omega) (by omega) (by simp [cK]) (aZ E _ (o+1) _ r (by omega) (by omega)) (aZ E _ (o+1) _ r (by omega) (by omega)) ((Hn.typeOf E _ l5 (o+1) _ r wX.drew yQ.out HR.out).mono fun e w' h=>tells h) ?_ ?_
  ·rintro a w' c had ⟨at_,k,hb,rfl⟩ hg
   exact And.intro had ⟨iw.trans hg,.inl ⟨_,_,hb,rfl⟩⟩
  rintro vals w' A6 c6 u6 ⟨l6,r9,yO⟩ hKx yz hgx eB hgo
  obtain ⟨w6,hW⟩:=uj (w'.setCell ⟨zz,6,none⟩ (.slice A6 ([Tr.mk k op m p t a ks].length+1) c6))
  have yC:PS E w6 l6 (o+1):=by rw [hW];exact aO
  have hsx:=hgx.size
  have iX:Gr (·=E.b) w w6:=by rw [hW];exact Gr.setCell (jD iw eB (fun q hq=>by have:=EK q hq;omega)) (.inl (by first|(simp;done)|(simp;omega))) _
  have bn:ag w6 (w.heap.size+1) 24 Z7:=by rw [hW];exact ag.far (ag.wx aT eB (by omega) (fun e=>by have:=EK _ e;omega)) (by first|(simp;done)|(simp;omega)) _
  have bE:ag w6 zz 24 (N7 37 0 0 ⟨#[]⟩ ⟨#[]⟩ x2.2 (.slice A6 ([Tr.mk k op m p t a ks].length+1) c6)):=by rw [hW];exact ag.jC (ag.wr aR hgx (by omega) (.inr rfl)) _
  have Bd:aN w6 lo zz (.slice A6 ([Tr.mk k op m p t a ks].length+1) c6) ([Tr.mk k op m p t a ks] ++ [u6]):=by rw [hW];exact hKx.setCell (.inr rfl) _
  have zw:ah w6 lo (fun q=>X q\/q=w.heap.size+1) (.slice A6 ([Tr.mk k op m p t a ks].length+1) c6) ([Tr.mk k op m p t a ks] ++ [u6]):=by rw [hW];exact aN.set2 hKx yz rfl _
  rw [<-hW]
  clear hW yO hKx yz hgx eB hgo hsx
  have Cm:=af r9
  clear r9
  go_wp2_with (first
   |(go_at_call 66;(with_reducible refine (gY E _ l6 o [41] ⟨#[41]⟩ _ _ aO rfl (by simp) Cm.out).mono ?_);rintro e w7 ⟨dZ,⟨a,k,hb,rfl⟩|⟨_,l7,rfl,Dt,Ao⟩⟩;exact iG (Gr.trans aJ dZ) hb;have lV:=bQ iX dZ;have Nu:=af Dt;clear Dt;have bW:=aD bn dZ;obtain ⟨_,EO,EP,ER,ES,ET,EU,EW,EX⟩:=bW.av;have dm:=aD bE dZ;obtain ⟨_,Lx,Vg,Vh,Vi,Vj,Vk,GQ,_⟩:=dm.av;have QO:=dU zw dZ))
  exact aX Tryz.results129 rfl rfl dS ⟨aJ,.inr ⟨37,0,0,[],[],x2.2,([Tr.mk k op m p t a ks] ++ [u6]),A6,c6,l7,rfl,Nu.out,ah.sub (X:=fun q=>X q\/q=w.heap.size+1) (v:=.slice A6 ([Tr.mk k op m p t a ks].length+1) c6) (ks:=([Tr.mk k op m p t a ks] ++ [u6])) nR (fun q hq _=>.inl hq),(by simp [cK]),aO⟩⟩
 ·skip
  have eY:=fJ.out
  rw [if_neg hm] at eY
  have amd:=bC hm
  clear fJ hm
  have fJ:=af eY
  clear eY
  go_wp2_with (first
   |(go_at_call 37;refine (aH E _ l2 o aO).mono ?_;rintro e w3 ⟨rfl,hg3⟩;have hP3:PS E w3 l2 o:=PS.below aO hg3;have hG3:=aL hG2 hg3;have aF:=bV ax hg3;have aM:ag w3 zz 24 (N7 36 0 0 ⟨#[]⟩ ⟨#[]⟩ x2.2 (.slice (some ⟨gg,0,none⟩) 1 1)):=ag.aC bz hg3;have kX:aN w3 lo zz (.slice (some ⟨gg,0,none⟩) 1 1) [Tr.mk k op m p t a ks]:=aN.aC oZ hg3;have Dc:ah w3 lo (fun q=>X q\/q=w.heap.size+1) (.slice (some ⟨gg,0,none⟩) 1 1) [Tr.mk k op m p t a ks]:=ah.aC nR hg3)
   |(go_at_call 19;(with_reducible refine (jd E _ l2 o _ _ aO fJ.out).mono ?_);rintro e w4 ⟨hg4,⟨a,k,hb,rfl⟩|⟨x4,l4,rfl,hq4,qm⟩⟩;exact iG (Gr.trans aJ hg4) hb;have hG4:=bQ hG3 hg4;have tH:=af hq4;clear hq4;have aK:=aD aF hg4;obtain ⟨_,wO,xC,xD,xE,xG,xH,xI,wP⟩:=aK.av;have aW:=aD aM hg4;obtain ⟨_,Ck,Dp,EB,EC,ED,EE,xJ,Dq⟩:=aW.av;have qo:aN w4 lo zz (.slice (some ⟨gg,0,none⟩) 1 1) [Tr.mk k op m p t a ks]:=rO hg4;have Ip:=dU Dc hg4))
  exact aX Tryz.results129 rfl rfl dS ⟨aJ,.inr ⟨36,0,0,[],x4.1.t,x2.2,[Tr.mk k op m p t a ks],_,1,l4,rfl,tH.out,ah.sub (X:=fun q=>X q\/q=w.heap.size+1) (v:=.slice (some ⟨gg,0,none⟩) 1 1) (ks:=[Tr.mk k op m p t a ks]) nR (fun q hq _=>.inl hq),(by simp [cK]),aO⟩⟩
theorem GR (n:Nat) (hn:n<=cK) (H:∀m,m<=n->ku m):C0m (n+1) 145 .kR:=by
 intro E w l o g r hm hP hq hr
 simp only [go,mg,eH,fC,dG,dM] at hq
 have hlt:=hP.lt
 have hgt:=hP.toks.lt
 obtain ⟨x1,l1,rfl⟩:=hP.cons
 have HX:=af (iB hP.good hm)
 rw [bH] at hq
 have fG:=af hq
 have HR:=af hr
 have Hn:=H n (Nat.le_refl _)
 clear hr hq hm
 go_enter Tryz.func145,Tryz.ntmps145
 go_wp2_with (first
  |(go_at_call 137;refine (qP E _ x1 l1 o aO HX.out).mono ?_;rintro e w1 ⟨rfl,hg1,hP1⟩;have hG1:=o8 w hg1;have kW:=hP1.lt;have oP:=hP1.toks.lt;have hs1:=hg1.size;(try simp at hs1);have az:ag w1 w.heap.size 24 Z7:=bU hg1;have mo:=az.lt;have wW:aI (w1.alloc (.cells #[.int .i64 30,.int .i64 0,.int .i64 0,.string ⟨#[]⟩,.string (bs x1.1.t),.int .i64 x1.2,.slice none 0 0] 24)) w1.heap.size (.slice (some ⟨w1.heap.size,0,none⟩) 1 1) [Tr.mk 30 0 0 [] x1.1.t x1.2 []]:=aI.lI (lo:=w1.heap.size) (k:=30) (op:=0) (m:=0) (p:=[]) (t:=x1.1.t) (a:=x1.2) (ks:=[]) (A:=none) (c:=0) (aI.nil w1 _ 0) (Nat.le_refl _))
  |(go_at_call 65;(with_reducible refine (kN E _ l1 o [40] ⟨#[40]⟩ _ _ aO rfl (by simp) fG.out).mono ?_);rintro e w2 ⟨hg2,⟨a,k,hb,rfl⟩|⟨x2,l2,rfl,hq2,hP2⟩⟩;exact iG (Gr.trans aJ hg2) hb;have hG2:=bQ hG1 hg2;have fJ:=af hq2;clear hq2;have ax:=aD az hg2;have bq:ag w2 (w1.heap.size+1) 24 (N7 33 0 0 ⟨#[]⟩ ⟨#[]⟩ 0 (.slice (some ⟨w1.heap.size,0,none⟩) 1 1)):=bU hg2;obtain ⟨_,_,_,_,_,_,YM,_,uE⟩:=bq.av;have kY:aN w2 w1.heap.size (w1.heap.size+1) (.slice (some ⟨w1.heap.size,0,none⟩) 1 1) [Tr.mk 30 0 0 [] x1.1.t x1.2 []]:=rO hg2))
 obtain ⟨w3,hW⟩:=uj (w2.setCell ⟨w1.heap.size+1,5,none⟩ (.int .i64 x2.2))
 have hP3:PS E w3 l2 (o+1):=by rw [hW];exact aO
 have hG3:Gr (·=E.b) w w3:=by rw [hW];exact aJ
 have aF:ag w3 w.heap.size 24 Z7:=by rw [hW];exact bz
 have aM:ag w3 (w1.heap.size+1) 24 (N7 33 0 0 ⟨#[]⟩ ⟨#[]⟩ x2.2 (.slice (some ⟨w1.heap.size,0,none⟩) 1 1)):=by rw [hW];exact bz
 have zu:=aM.lt
 have kX:aN w3 w1.heap.size (w1.heap.size+1) (.slice (some ⟨w1.heap.size,0,none⟩) 1 1) [Tr.mk 30 0 0 [] x1.1.t x1.2 []]:=by rw [hW];exact oZ
 rw [<-hW]
 have zP:=hP3.lt
 have Du:=hP3.toks.lt
 clear hW
 obtain ⟨_,_,_,_,_,_,_,sH,pg⟩:=aM.av
 refine nX E.b w1.heap.size (w1.heap.size+1) 88 #[.pointer (some ⟨E.b,0,none⟩)] _ _ kX sH (pg 6) (by omega) (by omega) (by omega) (by omega) (by simp [cK]) (aZ E _ (o+1) _ r (by omega) (by omega)) (aZ E _ (o+1) _ r (by omega) (by omega)) ((Hn.typeOf E _ l2 (o+1) _ r hP3.drew fJ.out HR.out).mono fun e w' h=>tells h) ?_ ?_
 ·rintro a w' c had ⟨at_,k,hb,rfl⟩ hg
  exact And.intro had ⟨hG3.trans hg,.inl ⟨_,_,hb,rfl⟩⟩
 rintro vals w' A4 c4 u4 ⟨l4,hq4,yO⟩ hKx hgx eB hgo
 obtain ⟨w4,hW⟩:=uj (w'.setCell ⟨w1.heap.size+1,6,none⟩ (.slice A4 ([Tr.mk 30 0 0 [] x1.1.t x1.2 []].length+1) c4))
 have qm:PS E w4 l4 (o+1):=by rw [hW];exact aO
 have hsx:=hgx.size
 have hG4:Gr (·=E.b) w w4:=by rw [hW];exact Gr.setCell (o7 hG3 hgx (by omega)) (.inl (by first|(simp;done)|(simp;omega))) _
 have aK:ag w4 w.heap.size 24 Z7:=by rw [hW];exact ag.far (ag.wr aF hgx (by omega) (.inl (by omega))) (by first|(simp;done)|(simp;omega)) _
 have aW:ag w4 (w1.heap.size+1) 24 (N7 33 0 0 ⟨#[]⟩ ⟨#[]⟩ x2.2 (.slice A4 ([Tr.mk 30 0 0 [] x1.1.t x1.2 []].length+1) c4)):=by rw [hW];exact ag.jC (ag.wr aM hgx (by omega) (.inr rfl)) _
 have qo:aN w4 w1.heap.size (w1.heap.size+1) (.slice A4 ([Tr.mk 30 0 0 [] x1.1.t x1.2 []].length+1) c4) ([Tr.mk 30 0 0 [] x1.1.t x1.2 []] ++ [u4]):=by rw [hW];exact hKx.setCell (.inr rfl) _
 rw [<-hW]
 clear hW yO hKx hgx eB hgo hsx
 have tH:=af hq4
 clear hq4
 go_wp2_with (first
  |(go_at_call 18;(with_reducible refine (bT E _ l4 (o+1) [44] ⟨#[44]⟩ _ _ aO rfl (by simp) tH.out).mono ?_);rintro e w5 ⟨hg5,⟨a,k,hb,rfl⟩|⟨x5,l5,rfl,rC,wX⟩⟩;exact iG (Gr.trans aJ hg5) hb;have iw:=bQ hG4 hg5;have yQ:=af rC;clear rC;have Js:=wX.lt;have Jt:=wX.toks.lt;have aT:=aD aK hg5;have aR:=aD aW hg5;have wI:=aR.lt;have rZ:aN w5 w1.heap.size (w1.heap.size+1) (.slice A4 ([Tr.mk 30 0 0 [] x1.1.t x1.2 []].length+1) c4) ([Tr.mk 30 0 0 [] x1.1.t x1.2 []] ++ [u4]):=rO hg5))
 obtain ⟨_,_,_,_,_,_,_,yR,zO⟩:=aR.av
 refine nX E.b w1.heap.size (w1.heap.size+1) 62 #[.pointer (some ⟨E.b,0,none⟩)] _ _ rZ yR (zO 6) (by omega) (by omega) (by omega) (by omega) (by simp [cK]) (aZ E _ (o+1) _ r (by omega) (by omega)) (aZ E _ (o+1) _ r (by omega) (by omega)) ((Hn.expr E _ l5 (o+1) _ r wX.drew yQ.out HR.out).mono fun e w' h=>tells h) ?_ ?_
 ·rintro a w' c had ⟨at_,k,hb,rfl⟩ hg
  exact And.intro had ⟨iw.trans hg,.inl ⟨_,_,hb,rfl⟩⟩
 rintro vals w' A6 c6 u6 ⟨l6,r9,yO⟩ hKx hgx eB hgo
 obtain ⟨w6,hW⟩:=uj (w'.setCell ⟨w1.heap.size+1,6,none⟩ (.slice A6 (([Tr.mk 30 0 0 [] x1.1.t x1.2 []] ++ [u4]).length+1) c6))
 have yC:PS E w6 l6 (o+1):=by rw [hW];exact aO
 have hsx:=hgx.size
 have iX:Gr (·=E.b) w w6:=by rw [hW];exact Gr.setCell (o7 iw hgx (by omega)) (.inl (by first|(simp;done)|(simp;omega))) _
 have bn:ag w6 w.heap.size 24 Z7:=by rw [hW];exact ag.far (ag.wr aT hgx (by omega) (.inl (by omega))) (by first|(simp;done)|(simp;omega)) _
 have bE:ag w6 (w1.heap.size+1) 24 (N7 33 0 0 ⟨#[]⟩ ⟨#[]⟩ x2.2 (.slice A6 (([Tr.mk 30 0 0 [] x1.1.t x1.2 []] ++ [u4]).length+1) c6)):=by rw [hW];exact ag.jC (ag.wr aR hgx (by omega) (.inr rfl)) _
 have Bd:aN w6 w1.heap.size (w1.heap.size+1) (.slice A6 (([Tr.mk 30 0 0 [] x1.1.t x1.2 []] ++ [u4]).length+1) c6) (([Tr.mk 30 0 0 [] x1.1.t x1.2 []] ++ [u4]) ++ [u6]):=by rw [hW];exact hKx.setCell (.inr rfl) _
 rw [<-hW]
 clear hW yO hKx hgx eB hgo hsx
 have Cm:=af r9
 clear r9
 go_wp2_with (first
  |(go_at_call 66;(with_reducible refine (gY E _ l6 o [41] ⟨#[41]⟩ _ _ aO rfl (by simp) Cm.out).mono ?_);rintro e w7 ⟨dZ,⟨a,k,hb,rfl⟩|⟨_,l7,rfl,Dt,Ao⟩⟩;exact iG (Gr.trans aJ dZ) hb;have lV:=bQ iX dZ;have Nu:=af Dt;clear Dt;have bW:=aD bn dZ;obtain ⟨_,EO,EP,ER,ES,ET,EU,EW,EX⟩:=bW.av;have dm:=aD bE dZ;obtain ⟨_,Lx,Vg,Vh,Vi,Vj,Vk,GQ,_⟩:=dm.av;have Iq:aN w7 w1.heap.size (w1.heap.size+1) (.slice A6 (([Tr.mk 30 0 0 [] x1.1.t x1.2 []] ++ [u4]).length+1) c6) (([Tr.mk 30 0 0 [] x1.1.t x1.2 []] ++ [u4]) ++ [u6]):=rO dZ))
 exact aX Tryz.results145 rfl rfl dS ⟨aJ,.inr ⟨33,0,0,[],[],x2.2,(([Tr.mk 30 0 0 [] x1.1.t x1.2 []] ++ [u4]) ++ [u6]),A6,c6,l7,rfl,Nu.out,aI.mono (lo:=w1.heap.size) (v:=.slice A6 (([Tr.mk 30 0 0 [] x1.1.t x1.2 []] ++ [u4]).length+1) c6) (ks:=(([Tr.mk 30 0 0 [] x1.1.t x1.2 []] ++ [u4]) ++ [u6])) (aN.kid (h:=w1.heap.size+1) oZ) (by omega),(by simp [cK]),aO⟩⟩
theorem Ju (n:Nat) (hn:n<=cK) (H:∀m,m<=n->ku m):CT (n+1) 128 .indexed:=by
 intro E w l o lo X g r k op m p t a ks A c hP hbl hgl hlo hX hK hq hr
 simp only [go,mg,eH,fC,eD,dG,dM] at hq
 have hlt:=hP.lt
 have hgt:=hP.toks.lt
 have HR:=af hr
 have Hn:=H n (Nat.le_refl _)
 clear hr
 have fZ:=af hq
 clear hq
 go_enter Tryz.func128,Tryz.ntmps128
 go_wp2
 have ZN:=hK.kid
 obtain ⟨w1,hW⟩:=uj ((w.alloc (.cells #[.int .i64 k,.int .i64 op,.int .i64 m,.string (bs p),.string (bs t),.int .i64 a,.slice A ks.length c] 24)).alloc (.cells #[.int .i64 0,.int .i64 0,.int .i64 0,.string ⟨#[]⟩,.string ⟨#[]⟩,.int .i64 0,.slice none 0 0] 24))
 have hP1:PS E w1 l o:=by rw [hW];exact aO
 have hG1:Gr (·=E.b) w w1:=by rw [hW];exact aJ
 have Da:ag w1 w.heap.size 24 (N7 k op m (bs p) (bs t) a (.slice A ks.length c)):=by rw [hW];exact bz
 have az:ag w1 (w.heap.size+1) 24 Z7:=by rw [hW];exact bz
 have Db:aI w1 lo (.slice A ks.length c) ks:=by rw [hW];exact nS
 have hy1:=hW
 have hw1:w1.heap.size=w.heap.size+2:=by rw [hW];simp
 rw [<-hW]
 have kW:=hP1.lt
 have oP:=hP1.toks.lt
 clear hW
 have Lv:ah w1 lo (fun q=>X q\/q=w.heap.size+1) (.slice A ks.length c) ks:=by rw [hy1];exact ((hK.or (Nat.le_succ _)).alloc _).alloc _
 clear hy1
 refine EJ E.b lo 63 w.heap.size (fun q=>X q\/q=w.heap.size+1) 35 k op m p t a c A ks 65 #[.pointer (some ⟨E.b,0,none⟩),.string ⟨#[91]⟩] (oO r) (fun W=>PS E W l o) (Io E (o+1) _ r) rfl (by kernel_rfl) rfl (by kernel_rfl) (by kernel_rfl) (by kernel_rfl) (by kernel_rfl) (by kernel_rfl) (by kernel_rfl) (by kernel_rfl) (by kernel_rfl) (by kernel_rfl) (by kernel_rfl) (by kernel_rfl) (by kernel_rfl) (by kernel_rfl)
  (fun a w h=>by simp [Act.eval] at h;unfold execOp;go_simp) rfl rfl Da (by omega) Db Lv (fun q hq=>hq.elim (fun h=>by have:=hX q h;omega) (fun h=>by omega)) (by omega) (by omega) (oV E _ _ o (by omega) (by omega)) hP1 (zN E _ (o+1) _ r (by omega) (by omega)) (fun W hW=>(kN E W l o [91] ⟨#[91]⟩ _ _ hW rfl (by simp) fZ.out).mono fun e w2 h=>Vd h) ?_ ?_
 ·rintro a w' c had ⟨at_,k,hb,rfl⟩ hg
  exact And.intro had ⟨hG1.trans hg,.inl ⟨_,_,hb,rfl⟩⟩
 rintro vals w2 x2 zz gg Ve hzz hgg ⟨l2,hq2,hP2⟩ hg2 bq kY Vf
 have hG2:Gr (·=E.b) w w2:=hG1.trans hg2
 have ax:ag w2 (w.heap.size+1) 24 Z7:=az.gr hg2 (by omega)
 dsimp only [bG,List.take_succ_cons,List.take_zero,List.take_nil]
 rw [Ve]
 have EK:∀q,(Value.slice (some ⟨gg,0,none⟩) 1 1).ownBlock=some q->w.heap.size+2<=q:=fun q hq=>by simp only [Value.ownBlock,Option.some.injEq] at hq;have:w1.heap.size=w.heap.size+2:=hw1;omega
 have adv:w.heap.size+2<=zz:=by have:w1.heap.size=w.heap.size+2:=hw1;omega
 clear Ve Da Db hg2 hzz hgg
 have fJ:=af hq2
 clear hq2
 go_wp2_with fail
 by_cases hm:mark l2=[58]
 ·skip
  have eY:=fJ.out
  rw [if_pos hm] at eY
  have HM:=af hm
  have Jv:=af (yA hm eY)
  clear hm eY
  go_wp2_with (first
   |((fail_if_success (have:=hg3));go_at_call 37;refine (aH E _ l2 (o+1) aO).mono ?_;rw [HM.out,show bs [58]=⟨#[58]⟩ from rfl];rintro e w3 ⟨rfl,hg3⟩;have hP3:PS E w3 l2 (o+1):=PS.below aO hg3;have hG3:=aL hG2 hg3;have aF:=bV ax hg3;have aM:ag w3 zz 24 (N7 35 0 0 ⟨#[]⟩ ⟨#[]⟩ x2.2 (.slice (some ⟨gg,0,none⟩) 1 1)):=ag.aC bz hg3;have kX:aN w3 lo zz (.slice (some ⟨gg,0,none⟩) 1 1) [Tr.mk k op m p t a ks]:=aN.aC oZ hg3;have Dc:ah w3 lo (fun q=>X q\/q=w.heap.size+1) (.slice (some ⟨gg,0,none⟩) 1 1) [Tr.mk k op m p t a ks]:=ah.aC nR hg3)
   |((fail_if_success (have:=hg4));go_at_call 18;(with_reducible refine (bT E _ l2 (o+1) [58] ⟨#[58]⟩ _ _ aO rfl (by simp) Jv.out).mono ?_);rintro e w4 ⟨hg4,⟨a,k,hb,rfl⟩|⟨x4,l4,rfl,hq4,qm⟩⟩;exact iG (Gr.trans aJ hg4) hb;have hG4:=bQ hG3 hg4;have tH:=af hq4;clear hq4;have aK:=aD aF hg4;have aW:=aD aM hg4;have qo:aN w4 lo zz (.slice (some ⟨gg,0,none⟩) 1 1) [Tr.mk k op m p t a ks]:=rO hg4;have Ip:=dU Dc hg4))
  by_cases hm:mark l4=[93]
  ·skip
   have eY:=tH.out
   rw [if_pos hm] at eY
   have HM:=af hm
   have Jv:=af (yA hm eY)
   clear hm eY
   go_wp2_with (first
    |((fail_if_success (have:=hg5));go_at_call 37;refine (aH E _ l4 (o+1) aO).mono ?_;rw [HM.out,show bs [93]=⟨#[93]⟩ from rfl];rintro e w5 ⟨rfl,hg5⟩;have wX:PS E w5 l4 (o+1):=PS.below aO hg5;have iw:=aL hG2 hg5;have aT:=bV ax hg5;have aR:ag w5 zz 24 (N7 35 0 0 ⟨#[]⟩ ⟨#[]⟩ x2.2 (.slice (some ⟨gg,0,none⟩) 1 1)):=ag.aC bz hg5;have rZ:aN w5 lo zz (.slice (some ⟨gg,0,none⟩) 1 1) [Tr.mk k op m p t a ks]:=aN.aC oZ hg5;have Bc:ah w5 lo (fun q=>X q\/q=w.heap.size+1) (.slice (some ⟨gg,0,none⟩) 1 1) [Tr.mk k op m p t a ks]:=ah.aC nR hg5)
    |((fail_if_success (have:=dA));go_at_call 66;(with_reducible refine (gY E _ l4 o [93] ⟨#[93]⟩ _ _ aO rfl (by simp) Jv.out).mono ?_);rintro e w6 ⟨dA,⟨a,k,hb,rfl⟩|⟨_,l6,rfl,r9,yC⟩⟩;exact iG (Gr.trans aJ dA) hb;have iX:=bQ iw dA;have Cm:=af r9;clear r9;have bn:=aD aT dA;obtain ⟨_,Jw,Jy,Jz,JC,JF,JG,JH,JI⟩:=bn.av;have bE:=aD aR dA;obtain ⟨_,NV,Vl,NW,Vm,Vn,Vo,NY,_⟩:=bE.av;have zw:=dU Bc dA))
   exact aX Tryz.results128 rfl rfl dS ⟨aJ,.inr ⟨35,0,0,[],[],x2.2,[Tr.mk k op m p t a ks],_,1,l6,rfl,Cm.out,ah.sub (X:=fun q=>X q\/q=w.heap.size+1) (v:=.slice (some ⟨gg,0,none⟩) 1 1) (ks:=[Tr.mk k op m p t a ks]) nR (fun q hq _=>.inl hq),(by simp [cK]),aO⟩⟩
  ·skip
   have eY:=tH.out
   rw [if_neg hm] at eY
   have hmn:=bC hm
   have Jv:=af eY
   clear hm eY
   go_wp2_with (first
    |((fail_if_success (have:=hg5));go_at_call 37;refine (aH E _ l4 (o+1) aO).mono ?_;rintro e w5 ⟨rfl,hg5⟩;have wX:PS E w5 l4 (o+1):=PS.below aO hg5;have iw:=aL hG2 hg5;have Js:=wX.lt;have Jt:=wX.toks.lt;have aT:=bV ax hg5;have EN:=aT.lt;have aR:ag w5 zz 24 (N7 35 0 0 ⟨#[]⟩ ⟨#[]⟩ x2.2 (.slice (some ⟨gg,0,none⟩) 1 1)):=ag.aC bz hg5;have wI:=aR.lt;have rZ:aN w5 lo zz (.slice (some ⟨gg,0,none⟩) 1 1) [Tr.mk k op m p t a ks]:=aN.aC oZ hg5;have Bc:ah w5 lo (fun q=>X q\/q=w.heap.size+1) (.slice (some ⟨gg,0,none⟩) 1 1) [Tr.mk k op m p t a ks]:=ah.aC nR hg5))
   obtain ⟨_,_,_,_,_,_,_,yR,zO⟩:=aR.av
   refine dD E.b lo zz (.pointer (some ⟨E.b,0,none⟩)) 62 #[.pointer (some ⟨E.b,0,none⟩)] _ _ rZ Bc (fun q hq=>hq.elim (fun h=>by have:=hX q h;omega) (fun h=>by omega)) yR (zO 6) (by omega) (by omega) (by omega) (by omega) (by simp [cK]) (aZ E _ (o+1) _ r (by omega) (by omega)) (aZ E _ (o+1) _ r (by omega) (by omega)) ((Hn.expr E _ l4 (o+1) _ r wX.drew Jv.out HR.out).mono fun e w' h=>tells h) ?_ ?_
   ·rintro a w' c had ⟨at_,k,hb,rfl⟩ hg
    exact And.intro had ⟨iw.trans hg,.inl ⟨_,_,hb,rfl⟩⟩
   rintro vals w' A6 c6 v5 ⟨l6,r9,yO⟩ hKx yz hgx eB hgo
   obtain ⟨w6,hW⟩:=uj (w'.setCell ⟨zz,6,none⟩ (.slice A6 ([Tr.mk k op m p t a ks].length+1) c6))
   have yC:PS E w6 l6 (o+1):=by rw [hW];exact aO
   have hsx:=hgx.size
   have iX:Gr (·=E.b) w w6:=by rw [hW];exact Gr.setCell (jD iw eB (fun q hq=>by have:=EK q hq;omega)) (.inl (by first|(simp;done)|(simp;omega))) _
   have bn:ag w6 (w.heap.size+1) 24 Z7:=by rw [hW];exact ag.far (ag.wx aT eB (by omega) (fun e=>by have:=EK _ e;omega)) (by first|(simp;done)|(simp;omega)) _
   have bE:ag w6 zz 24 (N7 35 0 0 ⟨#[]⟩ ⟨#[]⟩ x2.2 (.slice A6 ([Tr.mk k op m p t a ks].length+1) c6)):=by rw [hW];exact ag.jC (ag.wr aR hgx (by omega) (.inr rfl)) _
   have Bd:aN w6 lo zz (.slice A6 ([Tr.mk k op m p t a ks].length+1) c6) ([Tr.mk k op m p t a ks] ++ [v5]):=by rw [hW];exact hKx.setCell (.inr rfl) _
   have zw:ah w6 lo (fun q=>X q\/q=w.heap.size+1) (.slice A6 ([Tr.mk k op m p t a ks].length+1) c6) ([Tr.mk k op m p t a ks] ++ [v5]):=by rw [hW];exact aN.set2 hKx yz rfl _
   rw [<-hW]
   clear hW yO hKx yz hgx eB hgo hsx
   have Cm:=af r9
   clear r9
   obtain ⟨_,_,_,NW,_,_,_,_,Vp⟩:=bE.av
   go_wp2_with fail
   obtain ⟨w7,hW⟩:=uj (w6.setCell ⟨zz,2,none⟩ (.int .i64 2))
   have Ao:PS E w7 l6 (o+1):=by rw [hW];exact aO
   have lV:Gr (·=E.b) w w7:=by rw [hW];exact aJ
   have bW:ag w7 (w.heap.size+1) 24 Z7:=by rw [hW];exact bz
   have dm:ag w7 zz 24 (N7 35 0 2 ⟨#[]⟩ ⟨#[]⟩ x2.2 (.slice A6 ([Tr.mk k op m p t a ks].length+1) c6)):=by rw [hW];exact bz
   have Iq:aN w7 lo zz (.slice A6 ([Tr.mk k op m p t a ks].length+1) c6) ([Tr.mk k op m p t a ks] ++ [v5]):=by rw [hW];exact oZ
   have QO:ah w7 lo (fun q=>X q\/q=w.heap.size+1) (.slice A6 ([Tr.mk k op m p t a ks].length+1) c6) ([Tr.mk k op m p t a ks] ++ [v5]):=by rw [hW];exact aN.set2 Bd zw rfl _
   rw [<-hW]
   clear hW
   go_wp2_with (first
    |((fail_if_success (have:=fK));go_at_call 66;(with_reducible refine (gY E _ l6 o [93] ⟨#[93]⟩ _ _ aO rfl (by simp) Cm.out).mono ?_);rintro e w8 ⟨fK,⟨a,k,hb,rfl⟩|⟨_,l8,rfl,hq8,QS⟩⟩;exact iG (Gr.trans aJ fK) hb;have qJ:=bQ lV fK;have Vq:=af hq8;clear hq8;have dK:=aD bW fK;obtain ⟨_,NZ,N8,N9,Oa,Ob,Oc,Od,Oe⟩:=dK.av;have dV:=aD dm fK;obtain ⟨_,LA,Sy,Og,Sz,SA,SB,Dv,_⟩:=dV.av;have QT:=dU QO fK))
   exact aX Tryz.results128 rfl rfl dS ⟨aJ,.inr ⟨35,0,2,[],[],x2.2,([Tr.mk k op m p t a ks] ++ [v5]),A6,c6,l8,rfl,Vq.out,ah.sub (X:=fun q=>X q\/q=w.heap.size+1) (v:=.slice A6 ([Tr.mk k op m p t a ks].length+1) c6) (ks:=([Tr.mk k op m p t a ks] ++ [v5])) nR (fun q hq _=>.inl hq),(by simp [cK]),aO⟩⟩
 ·skip
  have eY:=fJ.out
  rw [if_neg hm] at eY
  have hmn:=bC hm
  have Jv:=af eY
  clear hm eY
  go_wp2_with (first
   |((fail_if_success (have:=hg3));go_at_call 37;refine (aH E _ l2 (o+1) aO).mono ?_;rintro e w3 ⟨rfl,hg3⟩;have hP3:PS E w3 l2 (o+1):=PS.below aO hg3;have hG3:=aL hG2 hg3;have zP:=hP3.lt;have Du:=hP3.toks.lt;have aF:=bV ax hg3;have uX:=aF.lt;have aM:ag w3 zz 24 (N7 35 0 0 ⟨#[]⟩ ⟨#[]⟩ x2.2 (.slice (some ⟨gg,0,none⟩) 1 1)):=ag.aC bz hg3;have zu:=aM.lt;have kX:aN w3 lo zz (.slice (some ⟨gg,0,none⟩) 1 1) [Tr.mk k op m p t a ks]:=aN.aC oZ hg3;have Dc:ah w3 lo (fun q=>X q\/q=w.heap.size+1) (.slice (some ⟨gg,0,none⟩) 1 1) [Tr.mk k op m p t a ks]:=ah.aC nR hg3))
  obtain ⟨_,_,_,_,_,_,_,sH,pg⟩:=aM.av
  refine dD E.b lo zz (.pointer (some ⟨E.b,0,none⟩)) 62 #[.pointer (some ⟨E.b,0,none⟩)] _ _ kX Dc (fun q hq=>hq.elim (fun h=>by have:=hX q h;omega) (fun h=>by omega)) sH (pg 6) (by omega) (by omega) (by omega) (by omega) (by simp [cK]) (aZ E _ (o+1) _ r (by omega) (by omega)) (aZ E _ (o+1) _ r (by omega) (by omega)) ((Hn.expr E _ l2 (o+1) _ r hP3.drew Jv.out HR.out).mono fun e w' h=>tells h) ?_ ?_
  ·rintro a w' c had ⟨at_,k,hb,rfl⟩ hg
   exact And.intro had ⟨hG3.trans hg,.inl ⟨_,_,hb,rfl⟩⟩
  rintro vals w' A4 c4 u4 ⟨l4,hq4,yO⟩ hKx yz hgx eB hgo
  obtain ⟨w4,hW⟩:=uj (w'.setCell ⟨zz,6,none⟩ (.slice A4 ([Tr.mk k op m p t a ks].length+1) c4))
  have qm:PS E w4 l4 (o+1):=by rw [hW];exact aO
  have hsx:=hgx.size
  have hG4:Gr (·=E.b) w w4:=by rw [hW];exact Gr.setCell (jD hG3 eB (fun q hq=>by have:=EK q hq;omega)) (.inl (by first|(simp;done)|(simp;omega))) _
  have adw:∀q,(Value.slice A4 ([Tr.mk k op m p t a ks].length+1) c4).ownBlock=some q->w.heap.size+2<=q:=fun q hq=>(hgo q hq).elim (EK q) (fun h=>by omega)
  have aK:ag w4 (w.heap.size+1) 24 Z7:=by rw [hW];exact ag.far (ag.wx aF eB (by omega) (fun e=>by have:=EK _ e;omega)) (by first|(simp;done)|(simp;omega)) _
  have aW:ag w4 zz 24 (N7 35 0 0 ⟨#[]⟩ ⟨#[]⟩ x2.2 (.slice A4 ([Tr.mk k op m p t a ks].length+1) c4)):=by rw [hW];exact ag.jC (ag.wr aM hgx (by omega) (.inr rfl)) _
  have qo:aN w4 lo zz (.slice A4 ([Tr.mk k op m p t a ks].length+1) c4) ([Tr.mk k op m p t a ks] ++ [u4]):=by rw [hW];exact hKx.setCell (.inr rfl) _
  have Ip:ah w4 lo (fun q=>X q\/q=w.heap.size+1) (.slice A4 ([Tr.mk k op m p t a ks].length+1) c4) ([Tr.mk k op m p t a ks] ++ [u4]):=by rw [hW];exact aN.set2 hKx yz rfl _
  rw [<-hW]
  clear hW yO hKx yz hgx eB hgo hsx
  have tH:=af hq4
  clear hq4
  go_wp2_with fail
  by_cases hm:mark l4=[93]
  ·skip
   have eY:=tH.out
   rw [if_pos hm] at eY
   have HM:=af hm
   have Jv:=af (yA hm eY)
   clear hm eY
   go_wp2_with (first
    |((fail_if_success (have:=hg5));go_at_call 37;refine (aH E _ l4 (o+1) aO).mono ?_;rw [HM.out,show bs [93]=⟨#[93]⟩ from rfl];rintro e w5 ⟨rfl,hg5⟩;have wX:=NN qm hg5;have iw:=aL hG4 hg5;have aT:=bV aK hg5;have aR:=bV aW hg5;obtain ⟨_,LB,_,_,_,_,_,_,zO⟩:=aR.av;have rZ:aN w5 lo zz (.slice A4 ([Tr.mk k op m p t a ks].length+1) c4) ([Tr.mk k op m p t a ks] ++ [u4]):=aN.aC oZ hg5;have Bc:=mR Ip hg5))
   obtain ⟨w6,hW⟩:=uj (w5.setCell ⟨zz,0,none⟩ (.int .i64 34))
   have yC:PS E w6 l4 (o+1):=by rw [hW];exact aO
   have iX:Gr (·=E.b) w w6:=by rw [hW];exact aJ
   have bn:ag w6 (w.heap.size+1) 24 Z7:=by rw [hW];exact bz
   have bE:ag w6 zz 24 (N7 34 0 0 ⟨#[]⟩ ⟨#[]⟩ x2.2 (.slice A4 ([Tr.mk k op m p t a ks].length+1) c4)):=by rw [hW];exact bz
   have Bd:aN w6 lo zz (.slice A4 ([Tr.mk k op m p t a ks].length+1) c4) ([Tr.mk k op m p t a ks] ++ [u4]):=by rw [hW];exact oZ
   have zw:ah w6 lo (fun q=>X q\/q=w.heap.size+1) (.slice A4 ([Tr.mk k op m p t a ks].length+1) c4) ([Tr.mk k op m p t a ks] ++ [u4]):=by rw [hW];exact aN.set2 rZ Bc rfl _
   rw [<-hW]
   clear hW
   go_wp2_with (first
    |((fail_if_success (have:=dZ));go_at_call 66;(with_reducible refine (gY E _ l4 o [93] ⟨#[93]⟩ _ _ aO rfl (by simp) Jv.out).mono ?_);rintro e w7 ⟨dZ,⟨a,k,hb,rfl⟩|⟨_,l7,rfl,Dt,Ao⟩⟩;exact iG (Gr.trans aJ dZ) hb;have lV:=bQ iX dZ;have Nu:=af Dt;clear Dt;have bW:=aD bn dZ;obtain ⟨_,EO,EP,ER,ES,ET,EU,EW,EX⟩:=bW.av;have dm:=aD bE dZ;obtain ⟨_,Lx,Vg,Vh,Vi,Vj,Vk,GQ,_⟩:=dm.av;have QO:=dU zw dZ))
   exact aX Tryz.results128 rfl rfl dS ⟨aJ,.inr ⟨34,0,0,[],[],x2.2,([Tr.mk k op m p t a ks] ++ [u4]),A4,c4,l7,rfl,Nu.out,ah.sub (X:=fun q=>X q\/q=w.heap.size+1) (v:=.slice A4 ([Tr.mk k op m p t a ks].length+1) c4) (ks:=([Tr.mk k op m p t a ks] ++ [u4])) nR (fun q hq _=>.inl hq),(by simp [cK]),aO⟩⟩
  ·skip
   have eY:=tH.out
   rw [if_neg hm] at eY
   have ame:=bC hm
   have Jv:=af eY
   clear hm eY
   go_wp2_with (first
    |((fail_if_success (have:=hg5));go_at_call 37;refine (aH E _ l4 (o+1) aO).mono ?_;rintro e w5 ⟨rfl,hg5⟩;have wX:=NN qm hg5;have iw:=aL hG4 hg5;have aT:=bV aK hg5;have aR:=bV aW hg5;obtain ⟨_,_,_,GU,_,_,_,_,zO⟩:=aR.av;have rZ:aN w5 lo zz (.slice A4 ([Tr.mk k op m p t a ks].length+1) c4) ([Tr.mk k op m p t a ks] ++ [u4]):=aN.aC oZ hg5;have Bc:=mR Ip hg5))
   obtain ⟨w6,hW⟩:=uj (w5.setCell ⟨zz,2,none⟩ (.int .i64 1))
   have yC:PS E w6 l4 (o+1):=by rw [hW];exact aO
   have iX:Gr (·=E.b) w w6:=by rw [hW];exact aJ
   have bn:ag w6 (w.heap.size+1) 24 Z7:=by rw [hW];exact bz
   have bE:ag w6 zz 24 (N7 35 0 1 ⟨#[]⟩ ⟨#[]⟩ x2.2 (.slice A4 ([Tr.mk k op m p t a ks].length+1) c4)):=by rw [hW];exact bz
   have Bd:aN w6 lo zz (.slice A4 ([Tr.mk k op m p t a ks].length+1) c4) ([Tr.mk k op m p t a ks] ++ [u4]):=by rw [hW];exact oZ
   have zw:ah w6 lo (fun q=>X q\/q=w.heap.size+1) (.slice A4 ([Tr.mk k op m p t a ks].length+1) c4) ([Tr.mk k op m p t a ks] ++ [u4]):=by rw [hW];exact aN.set2 rZ Bc rfl _
   rw [<-hW]
   clear hW
   go_wp2_with (first
    |((fail_if_success (have:=dZ));go_at_call 18;(with_reducible refine (bT E _ l4 (o+1) [58] ⟨#[58]⟩ _ _ aO rfl (by simp) Jv.out).mono ?_);rintro e w7 ⟨dZ,⟨a,k,hb,rfl⟩|⟨x7,l7,rfl,Dt,Ao⟩⟩;exact iG (Gr.trans aJ dZ) hb;have lV:=bQ iX dZ;have Nu:=af Dt;clear Dt;have bW:=aD bn dZ;have dm:=aD bE dZ;have Iq:aN w7 lo zz (.slice A4 ([Tr.mk k op m p t a ks].length+1) c4) ([Tr.mk k op m p t a ks] ++ [u4]):=rO dZ;have QO:=dU zw dZ))
   by_cases hm:mark l7=[93]
   ·skip
    have eY:=Nu.out
    rw [if_pos hm] at eY
    have HM:=af hm
    have Jv:=af (yA hm eY)
    clear hm eY
    go_wp2_with (first
     |((fail_if_success (have:=fK));go_at_call 37;refine (aH E _ l7 (o+1) aO).mono ?_;rw [HM.out,show bs [93]=⟨#[93]⟩ from rfl];rintro e w8 ⟨rfl,fK⟩;have QS:PS E w8 l7 (o+1):=PS.below aO fK;have qJ:=aL iX fK;have dK:=bV bn fK;have dV:=bV bE fK;have Ir:aN w8 lo zz (.slice A4 ([Tr.mk k op m p t a ks].length+1) c4) ([Tr.mk k op m p t a ks] ++ [u4]):=aN.aC oZ fK;have QT:=mR zw fK)
     |((fail_if_success (have:=gP));go_at_call 66;(with_reducible refine (gY E _ l7 o [93] ⟨#[93]⟩ _ _ aO rfl (by simp) Jv.out).mono ?_);rintro e w9 ⟨gP,⟨a,k,hb,rfl⟩|⟨_,l9,rfl,LC,hP9⟩⟩;exact iG (Gr.trans aJ gP) hb;have wY:=bQ qJ gP;have HQ9:=af LC;clear LC;have gH:=aD dK gP;obtain ⟨_,SC,SE,SF,SG,SH,SI,SK,SL⟩:=gH.av;have jv:=aD dV gP;obtain ⟨_,Oh,Vr,SN,Vs,Vt,Vu,Oi,_⟩:=jv.av;have ZO:=dU QT gP))
    exact aX Tryz.results128 rfl rfl dS ⟨aJ,.inr ⟨35,0,1,[],[],x2.2,([Tr.mk k op m p t a ks] ++ [u4]),_,c4,l9,rfl,HQ9.out,ah.sub (X:=fun q=>X q\/q=w.heap.size+1) (v:=.slice A4 ([Tr.mk k op m p t a ks].length+1) c4) (ks:=([Tr.mk k op m p t a ks] ++ [u4])) nR (fun q hq _=>.inl hq),(by simp [cK]),aO⟩⟩
   ·skip
    have eY:=Nu.out
    rw [if_neg hm] at eY
    have hmn:=bC hm
    have Jv:=af eY
    clear hm eY
    go_wp2_with (first
     |((fail_if_success (have:=fK));go_at_call 37;refine (aH E _ l7 (o+1) aO).mono ?_;rintro e w8 ⟨rfl,fK⟩;have QS:PS E w8 l7 (o+1):=PS.below aO fK;have qJ:=aL iX fK;have adx:=QS.lt;have ady:=QS.toks.lt;have dK:=bV bn fK;have ZP:=dK.lt;have dV:=bV bE fK;have ZQ:=dV.lt;have Ir:aN w8 lo zz (.slice A4 ([Tr.mk k op m p t a ks].length+1) c4) ([Tr.mk k op m p t a ks] ++ [u4]):=aN.aC oZ fK;have QT:=mR zw fK))
    obtain ⟨_,_,_,_,_,_,_,Dv,Oj⟩:=dV.av
    refine dD E.b lo zz (.pointer (some ⟨E.b,0,none⟩)) 62 #[.pointer (some ⟨E.b,0,none⟩)] _ _ Ir QT (fun q hq=>hq.elim (fun h=>by have:=hX q h;omega) (fun h=>by omega)) Dv (Oj 6) (by omega) (by omega) (by omega) (by omega) (by simp [cK]) (aZ E _ (o+1) _ r (by omega) (by omega)) (aZ E _ (o+1) _ r (by omega) (by omega)) ((Hn.expr E _ l7 (o+1) _ r QS.drew Jv.out HR.out).mono fun e w' h=>tells h) ?_ ?_
    ·rintro a w' c had ⟨at_,k,hb,rfl⟩ hg
     exact And.intro had ⟨qJ.trans hg,.inl ⟨_,_,hb,rfl⟩⟩
    rintro vals w' A9 c9 v8 ⟨l9,LC,yO⟩ hKx yz hgx eB hgo
    obtain ⟨w9,hW⟩:=uj (w'.setCell ⟨zz,6,none⟩ (.slice A9 (([Tr.mk k op m p t a ks] ++ [u4]).length+1) c9))
    have hP9:PS E w9 l9 (o+1):=by rw [hW];exact aO
    have hsx:=hgx.size
    have wY:Gr (·=E.b) w w9:=by rw [hW];exact Gr.setCell (jD qJ eB (fun q hq=>by have:=adw q hq;omega)) (.inl (by first|(simp;done)|(simp;omega))) _
    have gH:ag w9 (w.heap.size+1) 24 Z7:=by rw [hW];exact ag.far (ag.wx dK eB (by omega) (fun e=>by have:=adw _ e;omega)) (by first|(simp;done)|(simp;omega)) _
    have jv:ag w9 zz 24 (N7 35 0 1 ⟨#[]⟩ ⟨#[]⟩ x2.2 (.slice A9 (([Tr.mk k op m p t a ks] ++ [u4]).length+1) c9)):=by rw [hW];exact ag.jC (ag.wr dV hgx (by omega) (.inr rfl)) _
    have Vv:aN w9 lo zz (.slice A9 (([Tr.mk k op m p t a ks] ++ [u4]).length+1) c9) (([Tr.mk k op m p t a ks] ++ [u4]) ++ [v8]):=by rw [hW];exact hKx.setCell (.inr rfl) _
    have ZO:ah w9 lo (fun q=>X q\/q=w.heap.size+1) (.slice A9 (([Tr.mk k op m p t a ks] ++ [u4]).length+1) c9) (([Tr.mk k op m p t a ks] ++ [u4]) ++ [v8]):=by rw [hW];exact aN.set2 hKx yz rfl _
    rw [<-hW]
    clear hW yO hKx yz hgx eB hgo hsx
    have HQ9:=af LC
    clear LC
    obtain ⟨_,_,_,SN,_,_,_,_,YQ⟩:=jv.av
    go_wp2_with fail
    obtain ⟨kF,hW⟩:=uj (w9.setCell ⟨zz,2,none⟩ (.int .i64 3))
    have YR:PS E kF l9 (o+1):=by rw [hW];exact aO
    have jk:Gr (·=E.b) w kF:=by rw [hW];exact aJ
    have dF:ag kF (w.heap.size+1) 24 Z7:=by rw [hW];exact bz
    have dP:ag kF zz 24 (N7 35 0 3 ⟨#[]⟩ ⟨#[]⟩ x2.2 (.slice A9 (([Tr.mk k op m p t a ks] ++ [u4]).length+1) c9)):=by rw [hW];exact bz
    have Ol:aN kF lo zz (.slice A9 (([Tr.mk k op m p t a ks] ++ [u4]).length+1) c9) (([Tr.mk k op m p t a ks] ++ [u4]) ++ [v8]):=by rw [hW];exact oZ
    have abK:ah kF lo (fun q=>X q\/q=w.heap.size+1) (.slice A9 (([Tr.mk k op m p t a ks] ++ [u4]).length+1) c9) (([Tr.mk k op m p t a ks] ++ [u4]) ++ [v8]):=by rw [hW];exact aN.set2 Vv ZO rfl _
    rw [<-hW]
    clear hW
    go_wp2_with (first
     |((fail_if_success (have:=aV));go_at_call 66;(with_reducible refine (gY E _ l9 o [93] ⟨#[93]⟩ _ _ aO rfl (by simp) HQ9.out).mono ?_);rintro e bB ⟨aV,⟨a,k,hb,rfl⟩|⟨_,l11,rfl,hq11,agN⟩⟩;exact iG (Gr.trans aJ aV) hb;have gm:=bQ jk aV;have abL:=af hq11;clear hq11;have bR:=aD dF aV;obtain ⟨_,Be,Bf,Bg,Bh,Bi,Bj,Bl,Bn⟩:=bR.av;have bJ:=aD dP aV;obtain ⟨_,EY,EZ,E5,E8,E9,Fa,xL,_⟩:=bJ.av;have agO:=dU abK aV))
    exact aX Tryz.results128 rfl rfl dS ⟨aJ,.inr ⟨35,0,3,[],[],x2.2,(([Tr.mk k op m p t a ks] ++ [u4]) ++ [v8]),A9,c9,l11,rfl,abL.out,ah.sub (X:=fun q=>X q\/q=w.heap.size+1) (v:=.slice A9 (([Tr.mk k op m p t a ks] ++ [u4]).length+1) c9) (ks:=(([Tr.mk k op m p t a ks] ++ [u4]) ++ [v8])) nR (fun q hq _=>.inl hq),(by simp [cK]),aO⟩⟩
theorem YS (m:List UInt8):(nC m).2<=5:=by
 by_cases h0:m=[124,124]
 ·subst h0;decide
 by_cases h1:m=[38,38]
 ·subst h1;decide
 by_cases h2:m=[61,61]
 ·subst h2;decide
 by_cases h3:m=[33,61]
 ·subst h3;decide
 by_cases h4:m=[60]
 ·subst h4;decide
 by_cases h5:m=[60,61]
 ·subst h5;decide
 by_cases h6:m=[62]
 ·subst h6;decide
 by_cases h7:m=[62,61]
 ·subst h7;decide
 by_cases h8:m=[43]
 ·subst h8;decide
 by_cases h9:m=[45]
 ·subst h9;decide
 by_cases h10:m=[42]
 ·subst h10;decide
 by_cases h11:m=[47]
 ·subst h11;decide
 by_cases h12:m=[37]
 ·subst h12;decide
 simp only [nC,if_neg h0,if_neg h1,if_neg h2,if_neg h3,if_neg h4,if_neg h5,if_neg h6,if_neg h7,if_neg h8,if_neg h9,if_neg h10,if_neg h11,if_neg h12]
 decide
theorem SQ {l:List T} {k:Nat} (hk:1<=k) (h:¬(nC (mark l)).2 < k):mark l≠[]:=by
 intro e
 rw [e] at h
 exact h (by show 0 < k;omega)
theorem LD (n:Nat) (hn:n<=cK) (H:∀m,m<=n->ku m) (kk:Nat) (hk1:1<=kk) (UB:kk<=6):C1 (n+1) 89 kk (.binary kk):=by
 intro E w l o g r hP hq hr
 simp only [go,dG] at hq
 have hlt:=hP.lt
 have hgt:=hP.toks.lt
 have HR:=af hr
 have Hn:=H n (Nat.le_refl _)
 have fZ:=af hq
 clear hr hq
 go_enter Tryz.func89,Tryz.ntmps89
 go_wp2_with (first
  |(go_at_call 105;refine (Hn.unary E _ l o _ r aO fZ.out HR.out).mono ?_;rintro e w1 ⟨hg1,⟨a,k,hb,rfl⟩|⟨k1,Ap,m1,p1,t1,a1,aU,A1,c1,l1,rfl,hq1,qK,hn1,hP1⟩⟩;exact iG (Gr.trans aJ hg1) hb;have hG1:=o8 w hg1;have fG:=af hq1;clear hq1;have kW:=hP1.lt;have oP:=hP1.toks.lt;have hs1:=hg1.size;(try simp at hs1);have az:ag w1 w.heap.size 24 Z7:=bU hg1;have qK:=aI.mono (lo':=w.heap.size+1) qK (by simp);have agP:ah w1 (w.heap.size+1) (·=w1.heap.size) (.slice A1 aU.length c1) aU:=aI.p qK (fun q hq=>.inr (by omega))))
 go_loopg [] n (fun gk wr=>∃(k op m:Int) (p t:List UInt8) (a:Nat) (ks:List Tr) (A:Option Addr) (c:Nat) (l2:List T),PS E wr l2 o/\bnd (go gk (.Ca kk (.mk k op m p t a ks)) l2 o) g=r/\Gr (·=E.b) w wr/\ag wr w.heap.size 24 Z7/\ag wr w1.heap.size 24 (N7 k op m (bs p) (bs t) a (.slice A ks.length c))/\ah wr (w.heap.size+1) (·=w1.heap.size) (.slice A ks.length c) ks/\ks.length<=3*cK/\w1.heap.size+1<=wr.heap.size/\gk<=n)
 case atStart=>exact ⟨k1,Ap,m1,p1,t1,a1,aU,A1,c1,l1,aO,fG.out,aJ,bz,ag.new _ _ _,agP.alloc _,hn1,by simp,Nat.le_refl _⟩
 case round=>
  obtain ⟨k,op,m,p,t,a,ks,A,c,l2,hP2,hq2,hG2,hz2,hb2,hk2,hn2,hs2,hgk⟩:=hrel
  cases gk with
  |zero=>exact absurd (by rw [<-hq2];rfl) HR.out
  |succ f=>
   simp only [go,eD,dM,dG,fC] at hq2
   have ou:=hP2.lt
   have ql:=hP2.toks.lt
   have h5:=YS (mark l2)
   by_cases hs:(nC (mark l2)).2 < kk
   ·rw [if_pos hs] at hq2
    obtain ⟨⟨oo,ss⟩,hPo⟩:∃P,nC (mark l2)=P:=⟨_,rfl⟩
    rw [hPo] at hs h5
    dsimp only at hs h5
    have HO:=af hPo
    have fJ:=af hq2
    have hss:((ss:Nat):Int) < ((kk:Nat):Int):=by omega
    clear hPo hq2 hs
    go_wp2_with (go_at_call 106;refine (zq E _ l2 o hP2).mono ?_;rw [HO.out];rintro e w3 ⟨rfl,hb3⟩;have hP3:=hP2.below hb3;have hG3:Gr (·=E.b) w w3:=Gr.trans hG2 (Gr.of_below hb3);have hz3:=hz2.aC hb3;have abM:=hb2.aC hb3;have hk3:=hk2.aC hb3;obtain ⟨_,z0,z1,z2,z3,z4,z5,z6,zf⟩:=hz3.av;obtain ⟨_,b0,b1,b2,b3,b4,b5,b6,_⟩:=abM.av)
    exact aX Tryz.results89 rfl rfl dS ⟨aJ,.inr ⟨k,op,m,p,t,a,ks,A,c,l2,rfl,fJ.out,aI.mono (lo:=w.heap.size+1) (ah.kid (X:=(·=w1.heap.size)) nR) (by omega),hn2,aO⟩⟩
   ·rw [if_neg hs] at hq2
    have hmk:=SQ hk1 hs
    obtain ⟨⟨oo,ss⟩,hPo⟩:∃P,nC (mark l2)=P:=⟨_,rfl⟩
    rw [hPo] at hs hq2 h5
    dsimp only at hs hq2 h5
    obtain ⟨x,l3,rfl⟩:=hP2.cons
    rw [bH] at hq2
    have HX:=af (iB hP2.good hmk)
    have HO:=af hPo
    have fJ:=af hq2
    have hss:¬((ss:Nat):Int) < ((kk:Nat):Int):=by omega
    have HH:=(H f (by omega)).binary (ss+1) (by omega) (by omega)
    rw [show ((ss+1:Nat):Int)=(ss:Int)+1 by omega] at HH
    clear hPo hq2 hs hmk
    go_wp2_with (first
     |(go_at_call 106;refine (zq E _ (x :: l3) o hP2).mono ?_;rw [HO.out];rintro e w3 ⟨rfl,hb3⟩;have hP3:=hP2.below hb3;have hG3:Gr (·=E.b) w w3:=Gr.trans hG2 (Gr.of_below hb3);have hz3:=hz2.aC hb3;have abM:=hb2.aC hb3;have hk3:=hk2.aC hb3;have hs3:=hb3.size)
     |(go_at_call 39;refine (iK E _ x l3 o hP3 HX.out).mono ?_;rintro e w4 ⟨rfl,hg4,qm⟩;have hG4:=hG3.trans hg4;have Om:=hz3.call hg4 (by omega);have Dw:=abM.call hg4 (by omega);have hk4:=hk3.call hg4 (by omega);have hs4:=hg4.size)
     |(go_at_call 89;refine (HH E _ l3 o _ r qm fJ.out HR.out).mono ?_;rintro e w5 ⟨hg5,⟨a,k,hb,rfl⟩|⟨k5,Dx,m5,p5,t5,a5,tX,A5,c5,l5,rfl,rC,hk5,_,wX⟩⟩;exact And.intro rfl ⟨Gr.trans hG4 hg5,.inl ⟨_,_,hb,rfl⟩⟩;have iw:=hG4.trans hg5;have yQ:=af rC;clear rC;have Lt:=Om.call hg5 (by omega);have JJ:=Dw.call hg5 (by omega);have amf:=hk4.call hg5 (by omega);have amg:ah w5 (w.heap.size+1) (·=w1.heap.size) (.slice A5 tX.length c5) tX:=(aI.p hk5 (fun q hq=>.inl (by omega))).mono (by omega);obtain ⟨bl,b0,b1,b2,b3,b4,b5,b6,bf⟩:=JJ.av))
    obtain ⟨V,hV⟩:=uj (((((((w5.setCell ⟨w1.heap.size,0,none⟩ (.int .i64 31)).setCell ⟨w1.heap.size,1,none⟩ (.int .i64 oo)).setCell ⟨w1.heap.size,2,none⟩ (.int .i64 0)).setCell ⟨w1.heap.size,3,none⟩ (.string ⟨#[]⟩)).setCell ⟨w1.heap.size,4,none⟩ (.string ⟨#[]⟩)).setCell ⟨w1.heap.size,5,none⟩ (.int .i64 x.2)).setCell ⟨w1.heap.size,6,none⟩ (.slice (some ⟨w5.heap.size+1,0,none⟩) 2 2))
    have ZR:PS E V l5 o:=by rw [hV];exact aO
    have KX:Gr (·=E.b) w V:=by rw [hV];exact aJ
    have YT:ag V w.heap.size 24 Z7:=by rw [hV];exact bz
    have hBV:ag V w1.heap.size 24 (N7 31 oo 0 ⟨#[]⟩ ⟨#[]⟩ x.2 (.slice (some ⟨w5.heap.size+1,0,none⟩) 2 2)):=by rw [hV];exact dS
    have Yk:ah V (w.heap.size+1) (·=w1.heap.size) (.slice A ks.length c) ks:=by
     rw [hV]
     iterate 7 (refine ah.setCell ?_ (by exact .inr rfl) _)
     assumption
    have hyV:ah V (w.heap.size+1) (·=w1.heap.size) (.slice A5 tX.length c5) tX:=by
     rw [hV]
     iterate 7 (refine ah.setCell ?_ (by exact .inr rfl) _)
     assumption
    have YU:V.heap.size=w5.heap.size:=by rw [hV];simp
    rw [<-hV]
    clear hV
    have wW:=ah.QK (g:=w5.heap.size+1) (k:=k) (op:=op) (m:=m) (p:=p) (t:=t) (a:=a) (k':=k5) (op':=Dx) (m':=m5) (p':=p5) (t':=t5) (a':=a5) (Yk.alloc (.cells #[.int .i64 k5,.int .i64 Dx,.int .i64 m5,.string (bs p5),.string (bs t5),.int .i64 a5,.slice A5 tX.length c5] 24)) (hyV.alloc (.cells #[.int .i64 k5,.int .i64 Dx,.int .i64 m5,.string (bs p5),.string (bs t5),.int .i64 a5,.slice A5 tX.length c5] 24)) (by simp;omega) (fun q hq=>by simp;omega) (by simp;omega)
    go_roundg f
    case measure=>omega
    case rel=>exact ⟨31,oo,0,[],[],x.2,[.mk k op m p t a ks,.mk k5 Dx m5 p5 t5 a5 tX],_,2,l5,(ZR.alloc _).alloc _,yQ.out,(KX.alloc _).alloc _,(YT.alloc _).alloc _,(hBV.alloc _).alloc _,wW,by simp [cK],by simp;omega,by omega⟩
theorem LF (n:Nat) (hn:n<=cK) (H:∀m,m<=n->ku m):C0 (n+1) 105 .unary:=by
 intro E w l o g r hP hq hr
 simp only [go,fC,eD,dG,dM] at hq
 have hlt:=hP.lt
 have hgt:=hP.toks.lt
 have HR:=af hr
 have Hn:=H n (Nat.le_refl _)
 clear hr
 obtain ⟨x1,l1,rfl⟩:=hP.cons
 by_cases hm:mark (x1 :: l1)=[45]
 ·rw [if_pos hm,bH] at hq
  have HX:=af (iB hP.good (by rw [hm];simp))
  have HM:=af hm
  have fZ:=af hq
  clear hq hm
  go_enter Tryz.func105,Tryz.ntmps105
  go_wp2_with (first
   |(go_at_call 37;refine (aH E _ (x1 :: l1) o aO).mono ?_;rw [HM.out,show bs [45]=⟨#[45]⟩ from rfl];rintro e w1 ⟨rfl,hg1⟩;have hP1:PS E w1 (x1 :: l1) o:=PS.below aO hg1;have hG1:=gX E.b w hg1;have hs1:=hg1.size;(try simp at hs1);have az:ag w1 w.heap.size 24 Z7:=ag.aC bz hg1;have mo:=az.lt)
   |(go_at_call 124;refine (Il n Hn 1 E _ x1 l1 o _ r aO HX.out fZ.out HR.out).mono ?_;rintro e w2 ⟨hg2,⟨a,k,hb,rfl⟩|⟨k2,kJ,m2,p2,t2,a2,bN,A2,c2,l2,rfl,hq2,bI,hn2,hP2⟩⟩;exact iG (Gr.trans aJ hg2) hb;have hG2:=bQ hG1 hg2;have fJ:=af hq2;clear hq2;have ax:=aD az hg2;obtain ⟨_,lJ,lK,lM,lN,lQ,lS,lT,lU⟩:=ax.av;have bI:=aI.mono (lo':=w1.heap.size+0) bI (by simp)))
  exact aX Tryz.results105 rfl rfl dS ⟨aJ,.inr ⟨k2,kJ,m2,p2,t2,a2,bN,A2,c2,l2,rfl,fJ.out,aI.mono (lo:=w1.heap.size+0) nS (by omega),hn2,aO⟩⟩
 rw [if_neg hm] at hq
 have aiC:=bC hm
 clear hm
 by_cases hm:mark (x1 :: l1)=[33]
 ·rw [if_pos hm,bH] at hq
  have HX:=af (iB hP.good (by rw [hm];simp))
  have HM:=af hm
  have fZ:=af hq
  clear hq hm
  go_enter Tryz.func105,Tryz.ntmps105
  go_wp2_with (first
   |(go_at_call 37;refine (aH E _ (x1 :: l1) o aO).mono ?_;rw [HM.out,show bs [33]=⟨#[33]⟩ from rfl];rintro e w1 ⟨rfl,hg1⟩;have hP1:PS E w1 (x1 :: l1) o:=PS.below aO hg1;have hG1:=gX E.b w hg1;have hs1:=hg1.size;(try simp at hs1);have az:ag w1 w.heap.size 24 Z7:=ag.aC bz hg1;have mo:=az.lt)
   |(go_at_call 124;refine (Il n Hn 3 E _ x1 l1 o _ r aO HX.out fZ.out HR.out).mono ?_;rintro e w2 ⟨hg2,⟨a,k,hb,rfl⟩|⟨k2,kJ,m2,p2,t2,a2,bN,A2,c2,l2,rfl,hq2,bI,hn2,hP2⟩⟩;exact iG (Gr.trans aJ hg2) hb;have hG2:=bQ hG1 hg2;have fJ:=af hq2;clear hq2;have ax:=aD az hg2;obtain ⟨_,lJ,lK,lM,lN,lQ,lS,lT,lU⟩:=ax.av;have bI:=aI.mono (lo':=w1.heap.size+0) bI (by simp)))
  exact aX Tryz.results105 rfl rfl dS ⟨aJ,.inr ⟨k2,kJ,m2,p2,t2,a2,bN,A2,c2,l2,rfl,fJ.out,aI.mono (lo:=w1.heap.size+0) nS (by omega),hn2,aO⟩⟩
 rw [if_neg hm] at hq
 have aiD:=bC hm
 clear hm
 by_cases hm:mark (x1 :: l1)=[38]
 ·rw [if_pos hm] at hq
  have HM:=af hm
  have fZ:=af hq
  clear hq hm
  go_enter Tryz.func105,Tryz.ntmps105
  go_wp2_with (first
   |(go_at_call 37;refine (aH E _ (x1 :: l1) o aO).mono ?_;rw [HM.out,show bs [38]=⟨#[38]⟩ from rfl];rintro e w1 ⟨rfl,hg1⟩;have hP1:PS E w1 (x1 :: l1) o:=PS.below aO hg1;have hG1:=gX E.b w hg1;have hs1:=hg1.size;(try simp at hs1);have az:ag w1 w.heap.size 24 Z7:=ag.aC bz hg1;have mo:=az.lt)
   |(go_at_call 125;refine (Hn.oq E _ (x1 :: l1) o _ r aO fZ.out HR.out).mono ?_;rintro e w2 ⟨hg2,⟨a,k,hb,rfl⟩|⟨k2,kJ,m2,p2,t2,a2,bN,A2,c2,l2,rfl,hq2,bI,hn2,hP2⟩⟩;exact iG (Gr.trans aJ hg2) hb;have hG2:=bQ hG1 hg2;have fJ:=af hq2;clear hq2;have ax:=aD az hg2;obtain ⟨_,lJ,lK,lM,lN,lQ,lS,lT,lU⟩:=ax.av;have bI:=aI.mono (lo':=w1.heap.size+0) bI (by simp)))
  exact aX Tryz.results105 rfl rfl dS ⟨aJ,.inr ⟨k2,kJ,m2,p2,t2,a2,bN,A2,c2,l2,rfl,fJ.out,aI.mono (lo:=w1.heap.size+0) nS (by omega),hn2,aO⟩⟩
 rw [if_neg hm] at hq
 have aiE:=bC hm
 have fZ:=af hq
 clear hm hq
 go_enter Tryz.func105,Tryz.ntmps105
 go_wp2_with (first
  |(go_at_call 37;refine (aH E _ (x1 :: l1) o aO).mono ?_;rintro e w1 ⟨rfl,hg1⟩;have hP1:PS E w1 (x1 :: l1) o:=PS.below aO hg1;have hG1:=gX E.b w hg1;have hs1:=hg1.size;(try simp at hs1);have az:ag w1 w.heap.size 24 Z7:=ag.aC bz hg1)
  |(go_at_call 126;refine (Hn.first E _ (x1 :: l1) o _ r aO fZ.out HR.out).mono ?_;rintro e w2 ⟨hg2,⟨a,k,hb,rfl⟩|⟨k2,kJ,m2,p2,t2,a2,bN,A2,c2,l2,rfl,hq2,bI,hn2,hP2⟩⟩;exact iG (Gr.trans aJ hg2) hb;have hG2:=bQ hG1 hg2;have fJ:=af hq2;clear hq2;have ou:=hP2.lt;have ql:=hP2.toks.lt;have ax:=aD az hg2;have jT:=ax.lt;have bI:=aI.mono (lo':=w1.heap.size+0) bI (by simp);have agQ:ah w2 (w.heap.size+1) (·=w2.heap.size) (.slice A2 bN.length c2) bN:=(aI.p bI (fun q hq=>.inr (by omega))).mono (by omega)))
 go_loopg [] n (fun gk wr=>∃(k op m:Int) (p t:List UInt8) (a:Nat) (ks:List Tr) (A:Option Addr) (c:Nat) (l3:List T),PS E wr l3 o/\bnd (go gk (.behind (.mk k op m p t a ks)) l3 o) g=r/\Gr (·=E.b) w wr/\ag wr w.heap.size 24 Z7/\ag wr w2.heap.size 24 (N7 k op m (bs p) (bs t) a (.slice A ks.length c))/\ah wr (w.heap.size+1) (·=w2.heap.size) (.slice A ks.length c) ks/\ks.length<=3*cK/\w2.heap.size+1<=wr.heap.size/\gk<=n)
 case atStart=>exact ⟨k2,kJ,m2,p2,t2,a2,bN,A2,c2,l2,aO,fJ.out,aJ,bz,ag.new _ _ _,agQ.alloc _,hn2,by simp,Nat.le_refl _⟩
 case round=>
  obtain ⟨k,op,m,p,t,a,ks,A,c,l3,hP3,hq3,hG3,hz3,hb3,hk3,GJ,_,hgk⟩:=hrel
  cases gk with
  |zero=>exact absurd (by rw [<-hq3];rfl) HR.out
  |succ f=>
   simp only [go,eD,dM,dG] at hq3
   have zP:=hP3.lt
   have Du:=hP3.toks.lt
   have Hf:=H f (by omega)
   by_cases hm:mark l3=[40]
   ·rw [if_pos hm] at hq3
    have HM:=af hm
    have kE:=af hq3
    clear hq3 hm
    go_wp2_with (first
     |(go_at_call 37;refine (aH E _ l3 o hP3).mono ?_;rw [HM.out,show bs [40]=⟨#[40]⟩ from rfl];rintro e w4 ⟨rfl,hb4⟩;have qm:=hP3.below hb4;have hG4:Gr (·=E.b) w w4:=Gr.trans hG3 (Gr.of_below hb4);have Om:=hz3.aC hb4;have Dw:=hb3.aC hb4;have hk4:=hk3.aC hb4;obtain ⟨zl,_⟩:=Om.av;obtain ⟨bl,b0,b1,b2,b3,b4,b5,b6,_⟩:=Dw.av)
     |(go_at_call 127;refine (Hf.call E _ l3 o (w.heap.size+1) (·=w2.heap.size) _ r k op m p t a ks A c qm (by omega) (by omega) (by omega) (fun q hq=>by omega) hk4 kE.out HR.out).mono ?_;rintro e w5 ⟨hg5,⟨a,k,hb,rfl⟩|⟨k5,Dx,m5,p5,t5,a5,tX,A5,c5,l5,rfl,rC,hk5,YV,wX⟩⟩;exact And.intro rfl ⟨Gr.trans hG4 hg5,.inl ⟨_,_,hb,rfl⟩⟩;have iw:=hG4.trans hg5;have yQ:=af rC;clear rC;have Lt:=Om.call hg5 (by omega);have JJ:=Dw.call hg5 (by omega);obtain ⟨nl,n0,n1,n2,n3,n4,n5,n6,nf⟩:=JJ.av))
    obtain ⟨V,hV⟩:=uj (((((((w5.setCell ⟨w2.heap.size,0,none⟩ (.int .i64 k5)).setCell ⟨w2.heap.size,1,none⟩ (.int .i64 Dx)).setCell ⟨w2.heap.size,2,none⟩ (.int .i64 m5)).setCell ⟨w2.heap.size,3,none⟩ (.string (bs p5))).setCell ⟨w2.heap.size,4,none⟩ (.string (bs t5))).setCell ⟨w2.heap.size,5,none⟩ (.int .i64 a5)).setCell ⟨w2.heap.size,6,none⟩ (.slice A5 tX.length c5))
    have ZR:PS E V l5 o:=by rw [hV];exact aO
    have KX:Gr (·=E.b) w V:=by rw [hV];exact aJ
    have YT:ag V w.heap.size 24 Z7:=by rw [hV];exact bz
    have hBV:ag V w2.heap.size 24 (N7 k5 Dx m5 (bs p5) (bs t5) a5 (.slice A5 tX.length c5)):=by rw [hV];exact dS
    have Yk:ah V (w.heap.size+1) (·=w2.heap.size) (.slice A5 tX.length c5) tX:=by
     rw [hV]
     iterate 7 (refine ah.setCell ?_ (by exact .inr rfl) _)
     exact hk5
    have YU:V.heap.size=w5.heap.size:=by rw [hV];simp
    rw [<-hV]
    clear hV
    go_roundg f
    case measure=>omega
    case rel=>exact ⟨k5,Dx,m5,p5,t5,a5,tX,A5,c5,l5,ZR,yQ.out,KX,YT,hBV,Yk,YV,by omega,by omega⟩
   rw [if_neg hm] at hq3
   have aiF:=bC hm
   clear hm
   by_cases hm:mark l3=[91]
   ·rw [if_pos hm] at hq3
    have HM:=af hm
    have kE:=af hq3
    clear hq3 hm
    go_wp2_with (first
     |(go_at_call 37;refine (aH E _ l3 o hP3).mono ?_;rw [HM.out,show bs [91]=⟨#[91]⟩ from rfl];rintro e w4 ⟨rfl,hb4⟩;have qm:=hP3.below hb4;have hG4:Gr (·=E.b) w w4:=Gr.trans hG3 (Gr.of_below hb4);have Om:=hz3.aC hb4;have Dw:=hb3.aC hb4;have hk4:=hk3.aC hb4;obtain ⟨zl,_⟩:=Om.av;obtain ⟨bl,b0,b1,b2,b3,b4,b5,b6,_⟩:=Dw.av)
     |(go_at_call 128;refine (Hf.indexed E _ l3 o (w.heap.size+1) (·=w2.heap.size) _ r k op m p t a ks A c qm (by omega) (by omega) (by omega) (fun q hq=>by omega) hk4 kE.out HR.out).mono ?_;rintro e w5 ⟨hg5,⟨a,k,hb,rfl⟩|⟨k5,Dx,m5,p5,t5,a5,tX,A5,c5,l5,rfl,rC,hk5,YV,wX⟩⟩;exact And.intro rfl ⟨Gr.trans hG4 hg5,.inl ⟨_,_,hb,rfl⟩⟩;have iw:=hG4.trans hg5;have yQ:=af rC;clear rC;have Lt:=Om.call hg5 (by omega);have JJ:=Dw.call hg5 (by omega);obtain ⟨nl,n0,n1,n2,n3,n4,n5,n6,nf⟩:=JJ.av))
    obtain ⟨V,hV⟩:=uj (((((((w5.setCell ⟨w2.heap.size,0,none⟩ (.int .i64 k5)).setCell ⟨w2.heap.size,1,none⟩ (.int .i64 Dx)).setCell ⟨w2.heap.size,2,none⟩ (.int .i64 m5)).setCell ⟨w2.heap.size,3,none⟩ (.string (bs p5))).setCell ⟨w2.heap.size,4,none⟩ (.string (bs t5))).setCell ⟨w2.heap.size,5,none⟩ (.int .i64 a5)).setCell ⟨w2.heap.size,6,none⟩ (.slice A5 tX.length c5))
    have ZR:PS E V l5 o:=by rw [hV];exact aO
    have KX:Gr (·=E.b) w V:=by rw [hV];exact aJ
    have YT:ag V w.heap.size 24 Z7:=by rw [hV];exact bz
    have hBV:ag V w2.heap.size 24 (N7 k5 Dx m5 (bs p5) (bs t5) a5 (.slice A5 tX.length c5)):=by rw [hV];exact dS
    have Yk:ah V (w.heap.size+1) (·=w2.heap.size) (.slice A5 tX.length c5) tX:=by
     rw [hV]
     iterate 7 (refine ah.setCell ?_ (by exact .inr rfl) _)
     exact hk5
    have YU:V.heap.size=w5.heap.size:=by rw [hV];simp
    rw [<-hV]
    clear hV
    go_roundg f
    case measure=>omega
    case rel=>exact ⟨k5,Dx,m5,p5,t5,a5,tX,A5,c5,l5,ZR,yQ.out,KX,YT,hBV,Yk,YV,by omega,by omega⟩
   rw [if_neg hm] at hq3
   have aiG:=bC hm
   clear hm
   by_cases hm:mark l3=[46]
   ·rw [if_pos hm] at hq3
    have HM:=af hm
    have kE:=af hq3
    clear hq3 hm
    go_wp2_with (first
     |(go_at_call 37;refine (aH E _ l3 o hP3).mono ?_;rw [HM.out,show bs [46]=⟨#[46]⟩ from rfl];rintro e w4 ⟨rfl,hb4⟩;have qm:=hP3.below hb4;have hG4:Gr (·=E.b) w w4:=Gr.trans hG3 (Gr.of_below hb4);have Om:=hz3.aC hb4;have Dw:=hb3.aC hb4;have hk4:=hk3.aC hb4;obtain ⟨zl,_⟩:=Om.av;obtain ⟨bl,b0,b1,b2,b3,b4,b5,b6,_⟩:=Dw.av)
     |(go_at_call 129;refine (Hf.lZ E _ l3 o (w.heap.size+1) (·=w2.heap.size) _ r k op m p t a ks A c qm (by omega) (by omega) (by omega) (fun q hq=>by omega) hk4 kE.out HR.out).mono ?_;rintro e w5 ⟨hg5,⟨a,k,hb,rfl⟩|⟨k5,Dx,m5,p5,t5,a5,tX,A5,c5,l5,rfl,rC,hk5,YV,wX⟩⟩;exact And.intro rfl ⟨Gr.trans hG4 hg5,.inl ⟨_,_,hb,rfl⟩⟩;have iw:=hG4.trans hg5;have yQ:=af rC;clear rC;have Lt:=Om.call hg5 (by omega);have JJ:=Dw.call hg5 (by omega);obtain ⟨nl,n0,n1,n2,n3,n4,n5,n6,nf⟩:=JJ.av))
    obtain ⟨V,hV⟩:=uj (((((((w5.setCell ⟨w2.heap.size,0,none⟩ (.int .i64 k5)).setCell ⟨w2.heap.size,1,none⟩ (.int .i64 Dx)).setCell ⟨w2.heap.size,2,none⟩ (.int .i64 m5)).setCell ⟨w2.heap.size,3,none⟩ (.string (bs p5))).setCell ⟨w2.heap.size,4,none⟩ (.string (bs t5))).setCell ⟨w2.heap.size,5,none⟩ (.int .i64 a5)).setCell ⟨w2.heap.size,6,none⟩ (.slice A5 tX.length c5))
    have ZR:PS E V l5 o:=by rw [hV];exact aO
    have KX:Gr (·=E.b) w V:=by rw [hV];exact aJ
    have YT:ag V w.heap.size 24 Z7:=by rw [hV];exact bz
    have hBV:ag V w2.heap.size 24 (N7 k5 Dx m5 (bs p5) (bs t5) a5 (.slice A5 tX.length c5)):=by rw [hV];exact dS
    have Yk:ah V (w.heap.size+1) (·=w2.heap.size) (.slice A5 tX.length c5) tX:=by
     rw [hV]
     iterate 7 (refine ah.setCell ?_ (by exact .inr rfl) _)
     exact hk5
    have YU:V.heap.size=w5.heap.size:=by rw [hV];simp
    rw [<-hV]
    clear hV
    go_roundg f
    case measure=>omega
    case rel=>exact ⟨k5,Dx,m5,p5,t5,a5,tX,A5,c5,l5,ZR,yQ.out,KX,YT,hBV,Yk,YV,by omega,by omega⟩
   rw [if_neg hm] at hq3
   have aiH:=bC hm
   clear hm
   have kE:=af hq3
   clear hq3
   go_wp2_with (go_at_call 37;refine (aH E _ l3 o hP3).mono ?_;rintro e w4 ⟨rfl,hb4⟩;have qm:=hP3.below hb4;have hG4:Gr (·=E.b) w w4:=Gr.trans hG3 (Gr.of_below hb4);have Om:=hz3.aC hb4;have Dw:=hb3.aC hb4;have hk4:=hk3.aC hb4;obtain ⟨_,z0,z1,z2,z3,z4,z5,z6,zf⟩:=Om.av;obtain ⟨_,b0,b1,b2,b3,b4,b5,b6,_⟩:=Dw.av)
   exact aX Tryz.results105 rfl rfl dS ⟨aJ,.inr ⟨k,op,m,p,t,a,ks,A,c,l3,rfl,kE.out,aI.mono (lo:=w.heap.size+1) (ah.kid (X:=(·=w2.heap.size)) nR) (by omega),GJ,aO⟩⟩
theorem Vw {n:Nat} (Hn:ku n) (p:Pt):C0 n p.fn p.nt:=by
 cases p
 ·exact Hn.expr
 ·exact Hn.key
 ·exact Hn.param
 ·exact Hn.typeOf
 ·exact Hn.lY
 ·exact Hn.field
 ·exact Hn.sig
theorem xM {ops:Array Oper} {rest:List Oper} {o:Oper} {a:Act} {Q:Exit->Act->World->Prop} {w:World} {lo N b g:Nat} {v:Value} {dx:List Tr} {t:Tr} (hgd:o.guard=none) (s x:Operand)
  (ho:o.op= .call { callee:=.builtin .append,args:=#[s,x],argTypes:=#[22,22] })
  (hK:aI w lo v dx) (hv:∀q,v.ownBlock=some q->q < N) (hN:aI w N (.slice (some ⟨g,0,none⟩) 1 1) [t]) (hlo:lo<=N) (hb:b < lo) (hlen:dx.length<=3*cK) (hsz:lo<=w.heap.size) (hs:a.eval s=v) (hx:a.eval x= .slice (some ⟨g,0,none⟩) 1 1)
  (hk:∀A c w',aI w' lo (.slice A (dx.length+1) c) (dx ++ [t])->Gr (fun k=>v.ownBlock=some k) w w'->wpList Tryz.prog ops Q rest (a.put o.dst (.slice A (dx.length+1) c)) w'):wpList Tryz.prog ops Q (o :: rest) a w:=
 wpList_plain hgd fun _ hK'=>AV (h:=b) (X:=fun _=>False) (hK.x hb) (aI.p hK nofun) nofun nofun hv hN hlo (by omega) hlen hsz (by omega) s x ho hs hx fun A c w' _ h2 _ h4=>hK' _ _ (hk A c w' h2.kid h4)
theorem SS (n:Nat) (hn:n<=cK) (H:∀m,m<=n->ku m) (p:Pt):CL (n+1) p:=by
 intro E w l o g r fv hfv hP hq hr
 subst hfv
 simp only [go,dG] at hq
 have HC:∀m,m<=n->∀(E:Env) (w:World) (l:List T) (o:Nat) (g:Tr->List T->R) (r:R),PS E w l o->bnd (go m p.nt l o) g=r->r≠.out->Calls Tryz.prog p.fn #[.pointer (some ⟨E.b,0,none⟩)] w (CZ E w w.heap.size o g r):=fun m hm=>Vw (H m hm) p
 have hcf:∀w,(callFunc p.fn #[.pointer (some ⟨E.b,0,none⟩)]).run Tryz.prog w= .ok (.enter p.fn #[.pointer (some ⟨E.b,0,none⟩)]) w:=by
  intro w
  cases p <;> rfl
 obtain ⟨fq,hfq⟩:=aS p.fn
 rw [hfq] at HC hcf |-
 clear hfq
 have hlt:=hP.lt
 have hgt:=hP.toks.lt
 have HR:=af hr
 have HN:=af hn
 have fZ:=af hq
 have H1:=HC n (Nat.le_refl _)
 clear hr hq hn
 go_enter Tryz.func68,Tryz.ntmps68
 go_wp2_with ((with_reducible refine (H1 E _ l o _ r hP fZ.out HR.out).mono ?_);rintro e w1 ⟨hg1,⟨a,k,hb,rfl⟩|⟨k1,Ap,m1,p1,t1,a1,aU,A1,c1,l1,rfl,hq1,hk1,_,hP1⟩⟩;exact iG (Gr.trans aJ hg1) hb;have hG1:=o8 w hg1;have fG:=af hq1;clear hq1;have hs1:w.heap.size<=w1.heap.size:=hg1.size)
 have wW:=aI.lI (lo:=w.heap.size) (k:=k1) (op:=Ap) (m:=m1) (p:=p1) (t:=t1) (a:=a1) hk1 hs1
 go_loopg [5] n (fun gk v wr=>∃(acc:List Tr) (A:Option Addr) (c:Nat) (l2:List T),v= .slice A acc.length c/\acc.length+gk<=n+1/\PS E wr l2 o/\bnd (go gk (.lists p acc) l2 o) g=r/\Gr (·=E.b) w wr/\aI wr w.heap.size (.slice A acc.length c) acc/\w.heap.size<=wr.heap.size/\gk<=n)
 case atStart=>exact ⟨[Tr.mk k1 Ap m1 p1 t1 a1 aU],_,1,l1,rfl,by simp;omega,aO,fG.out,aJ,wW,by simp;omega,Nat.le_refl _⟩
 case round=>
  obtain ⟨acc,A,c,l2,rfl,hac,hP2,hq2,hG2,hK2,hs2,hgk⟩:=hrel
  cases gk with
  |zero=>exact absurd (by rw [<-hq2];rfl) HR.out
  |succ f=>
   simp only [go,eD,dM,dG,fC] at hq2
   have ou:=hP2.lt
   have ql:=hP2.toks.lt
   have Hf:=HC f (by omega)
   by_cases hm:mark l2=[44]
   ·rw [if_pos hm] at hq2
    have HM:=af hm
    have fJ:=af hq2
    clear hq2 hm
    go_wp2_with (first
     |(go_at_call 20;refine (qc E _ l2 o [44] _ hP2 rfl (by simp) HM.out).mono ?_;rintro e w3 ⟨rfl,hg3,xs,l3,LG,hP3⟩;have hG3:Gr (·=E.b) w w3:=hG2.trans hg3;have hq3:=fJ.out;rw [LG,bH] at hq3;have kE:=af hq3;clear hq3 LG;have hK3:=hK2.call hg3 (by omega);have hs3:=hg3.size)
     |((with_reducible refine (Hf E _ l3 o _ r hP3 kE.out HR.out).mono ?_);rintro e w4 ⟨hg4,⟨a,k,hb,rfl⟩|⟨k4,Cn,m4,p4,t4,a4,BQ,A4,c4,l4,rfl,hq4,hk4,_,qm⟩⟩;exact And.intro rfl ⟨Gr.trans hG3 hg4,.inl ⟨_,_,hb,rfl⟩⟩;have hG4:=hG3.trans hg4;have tH:=af hq4;clear hq4;have hK4:=hK3.call hg4 (by omega);have hs4:=hg4.size;have Vx:=aI.lI (lo:=w3.heap.size) (k:=k4) (op:=Cn) (m:=m4) (p:=p4) (t:=t4) (a:=a4) hk4 hs4;have hown:=fun q e=>(hK3.own (g:=q) e).2;have JK:=qm.toks.lt)
     |(at_builtin;refine xM (lo:=w.heap.size) (N:=w3.heap.size) (b:=E.b) (v:=.slice A acc.length c) (dx:=acc) (t:=(Tr.mk k4 Cn m4 p4 t4 a4 BQ)) rfl _ _ rfl (hK4.alloc _) hown Vx (by omega) hlt (by have:=HN.out;unfold cK at*;omega) (by simp;omega) rfl rfl ?_;intro A5 c5 w5 hK5 hg5))
    have hs5:w4.heap.size+1<=w5.heap.size:=by have:=hg5.size;simpa using this
    have wX:PS E w5 l4 o:=(qm.alloc _).gr hg5 (fun e=>by have:=(hK4.own e).1;omega) (fun e=>by have:=(hK4.own e).1;omega)
    have iw:Gr (·=E.b) w w5:=(hG4.alloc _).wide hg5 (fun k hk e=>by have:=(hK4.own e).1;omega)
    go_roundg f
    case measure=>omega
    case rel=>exact ⟨acc ++ [Tr.mk k4 Cn m4 p4 t4 a4 BQ],A5,c5,l4,by simp,by simp;omega,wX,tH.out,iw,by simpa using hK5,by omega,by omega⟩
   ·rw [if_neg hm] at hq2
    have HM:=af hm
    have fJ:=af hq2
    clear hq2 hm
    go_wp2_with (go_at_call 20;refine (rA E _ l2 o [44] _ hP2 rfl HM.out).mono ?_;rintro e w3 ⟨rfl,hb3⟩;have hP3:=hP2.below hb3;have hG3:Gr (·=E.b) w w3:=Gr.trans hG2 (Gr.of_below hb3);have hK3:=hK2.aC hb3)
    go_ret
    exact ⟨hG3,.inr ⟨acc,A,c,l2,rfl,fJ.out,hK3,by have:=HN.out;unfold cK at*;omega,hP3⟩⟩
end
theorem Vy (ρ:Operand->Value) (w:World) (dst:Option Tmp) (x:Operand) (ty:TypeId) (pos:String) (after:Array Edge) (K n:Int) (s:ByteArray) (A:Option Addr) (m c:Nat) (y z:Operand) (h0:ρ (.const (.int .i64 K))= .int .i64 K) (h3:ρ x= .string s) (h4:ρ y= .int .i64 n) (h6:ρ z= .slice A m c):(execOp ρ { dst:=dst,op:=.build 24 #[(0,.const (.int .i64 K)),(4,x),(5,y),(6,z)],type:=ty,pos:=pos,after:=after,guard:=none }).run Tryz.prog w= .ok (.value (.agg #[.int .i64 K,.int .i64 0,.int .i64 0,.string ⟨#[]⟩,.string s,.int .i64 n,.slice A m c])) w:=by
 unfold execOp;simp only [List.map_toArray,List.map_cons,List.map_nil,h0,h3,h4,h6];go_simp
theorem LH (ρ:Operand->Value) (w:World) (dst:Option Tmp) (x:Operand) (ty:TypeId) (pos:String) (after:Array Edge) (i q:Nat) (hi:i=1\/i=3) (hx:ρ x= .pointer (some ⟨q,0,none⟩)):(execOp ρ { dst:=dst,op:=.fieldAddr 53 x i,type:=ty,pos:=pos,after:=after,guard:=none }).run Tryz.prog w= .ok (.value (.pointer (some ⟨q,i,none⟩))) w:=by
 rcases hi with rfl|rfl <;> (unfold execOp;simp only [hx];go_simp)
theorem SV (ρ:Operand->Value) (w:World) (dst:Option Tmp) (x:Operand) (ty:TypeId) (pos:String) (after:Array Edge) (q i:Nat) (s:ByteArray) (hx:ρ x= .pointer (some ⟨q,i,none⟩)) (hc:w.cell? ⟨q,i,none⟩=some (.string s)):(execOp ρ { dst:=dst,op:=.load 9 x,type:=ty,pos:=pos,after:=after,guard:=none }).run Tryz.prog w= .ok (.value (.string s)) w:=by
 unfold execOp;simp only [hx];go_simp
theorem SX (ρ:Operand->Value) (w:World) (dst:Option Tmp) (x:Operand) (ty:TypeId) (pos:String) (after:Array Edge) (q i:Nat) (n:Int) (hx:ρ x= .pointer (some ⟨q,i,none⟩)) (hc:w.cell? ⟨q,i,none⟩=some (.int .i64 n)):(execOp ρ { dst:=dst,op:=.load 3 x,type:=ty,pos:=pos,after:=after,guard:=none }).run Tryz.prog w= .ok (.value (.int .i64 n)) w:=by
 unfold execOp;simp only [hx];go_simp
structure JD (b:Nat) (w0:World) (K:Int) (tx:ByteArray) (at_:Nat) (C:World->Prop) (D:Tr->World->Prop) (l1 l3 c s d al st:Bool) (v5 v6 v7 v8:Value) (w:World):Prop where
 d1:s=true->c=true
 d2:d=true->s=true
 d3:st=true->d=true/\al=true
 gr:Gr (·=b) w0 w
 q0:c=false->C w
 p1:c=true->s=false->∃(k op n:Int) (p t:List UInt8) (a:Nat) (ks:List Tr) (A:Option Addr) (cc:Nat),v5= .agg #[.int .i64 k,.int .i64 op,.int .i64 n,.string (bs p),.string (bs t),.int .i64 a,.slice A ks.length cc]/\aI w w0.heap.size (.slice A ks.length cc) ks/\(∀z,al=true->v8= .pointer (some ⟨z,0,none⟩)->aN w w0.heap.size z (.slice A ks.length cc) ks)/\D (.mk k op n p t a ks) w
 s1:s=true->∃g t,v6= .slice (some ⟨g,0,none⟩) 1 1/\aI w w0.heap.size v6 [t]/\(∀z,al=true->v8= .pointer (some ⟨z,0,none⟩)->aN w w0.heap.size z v6 [t])/\D t w
 b1:d=true->v7= .agg #[.int .i64 K,.int .i64 0,.int .i64 0,.string ⟨#[]⟩,.string tx,.int .i64 at_,v6]
 a1:al=true->∃z,v8= .pointer (some ⟨z,0,none⟩)/\w0.heap.size<=z/\z < w.heap.size/\(st=false->ag w z 24 Z7)/\(st=true->ag w z 24 (N7 K 0 0 ⟨#[]⟩ tx at_ v6))
theorem Vz {id:Nat} {a0:Act} {w0:World} {Q:Exit->Act->World->Prop} {ops:Array Oper} {d0 d1 d2 d3 d4 d5 d6 d7 d8 tp tb:Nat} {c5:Call} {y0 y1 y2 y3 y4 y5 y6 y7 y8 y9:TypeId} {p0 p1 p2 p3 p4 p5 p6 p7 p8 p9:String} {Ex af1 af2 Yd af4 Ye UY UZ af8 af9:Array Edge}
  (b n q:Nat) (K:Int) (x:T) (f:FuncId) (argv:Array Value) (B:List PanicEntry->Prop) (C:World->Prop) (D:Tr->World->Prop)
  (hops:ops=#[
   { dst:=some d0,op:=.fieldAddr 53 (.tmp tb) 1,type:=y0,pos:=p0,after:=Ex,guard:=none },
   { dst:=some d1,op:=.load 9 (.tmp d0),type:=y1,pos:=p1,after:=af1,guard:=none },
   { dst:=some d2,op:=.fieldAddr 53 (.tmp tb) 3,type:=y2,pos:=p2,after:=af2,guard:=none },
   { dst:=some d3,op:=.load 3 (.tmp d2),type:=y3,pos:=p3,after:=Yd,guard:=none },
   { dst:=some d4,op:=.move (.tmp tp),type:=y4,pos:=p4,after:=af4,guard:=none },
   { dst:=some d5,op:=.call c5,type:=y5,pos:=p5,after:=Ye,guard:=none },
   { dst:=some d6,op:=.buildSlice 22 1 #[(0,.tmp d5)],type:=y6,pos:=p6,after:=UY,guard:=none },
   { dst:=some d7,op:=.build 24 #[(0,.const (.int .i64 K)),(4,.tmp d1),(5,.tmp d3),(6,.tmp d6)],type:=y7,pos:=p7,after:=UZ,guard:=none },
   { dst:=some d8,op:=.alloc 24,type:=y8,pos:=p8,after:=af8,guard:=none },
   { dst:=none,op:=.store 24 (.tmp d8) (.tmp d7),type:=y9,pos:=p9,after:=af9,guard:=none }])
  (hB:preB ops 10=true) (hn:a0.tmps.size=n) (hin:Ux ops 10 n=true) (hnp:zn ops tp=true) (hnb:zn ops tb=true) (hr:Region.ready .any ops (nU 10 10)=[])
  (e10:dep ops 1 0=true) (e32:dep ops 3 2=true) (e54:dep ops 5 4=true) (e65:dep ops 6 5=true) (e71:dep ops 7 1=true) (e73:dep ops 7 3=true) (e76:dep ops 7 6=true) (e98:dep ops 9 8=true) (e97:dep ops 9 7=true)
  (hrun:∀(a:Act) (w:World),a.eval (.tmp d4)= .pointer (some ⟨b,0,none⟩)->(execOp a.eval { dst:=some d5,op:=.call c5,type:=y5,pos:=p5,after:=Ye,guard:=none }).run Tryz.prog w= .ok (.enter f argv) w)
  (htp:a0.eval (.tmp tp)= .pointer (some ⟨b,0,none⟩)) (htb:a0.eval (.tmp tb)= .pointer (some ⟨q,0,none⟩))
  (hbq:ag w0 q 53 (T4 x.1.k (bs x.1.t) x.1.n x.2)) (hqb:q≠b) (hbw:b < w0.heap.size)
  (hC:Calm w0.heap.size C) (hC0:C w0) (hD:∀t,Calm w0.heap.size (D t)) (hcall:∀w,C w->Calls Tryz.prog f argv w (Ij b w B D))
  (hbad:∀(a:Act) (w':World) (c:List PanicEntry),a.defers=a0.defers->B c->Gr (·=b) w0 w'->Q (.panic c) a w')
  (hnext:∀(vals:Nat->Value) (w':World) (t:Tr) (z g:Nat),vals 8= .pointer (some ⟨z,0,none⟩)->w0.heap.size<=z->D t w'->Gr (·=b) w0 w'->ag w' z 24 (N7 K 0 0 ⟨#[]⟩ (bs x.1.t) x.2 (.slice (some ⟨g,0,none⟩) 1 1))->aN w' w0.heap.size z (.slice (some ⟨g,0,none⟩) 1 1) [t]->
   Q .normal (bG vals (ops.toList.take 10) 0 a0) w'):
  (Code.region id ops true).wp Tryz.prog Q a0 w0:=by
 have np:=fD hnp
 have nb:=fD hnb
 have hsz:ops.size=10:=by rw [hops];rfl
 have wz:∀{w w':World} {z:Nat},w0.heap.size<=z->Gr (·=z) w w'->Gr (fun k=>w0.heap.size<=k) w w':=fun hz h=>h.mono fun k _ hk=>by have:k=_:=hk;omega
 refine rE 10 (by kernel_rfl) hB (fun L vals w=>(L 0=true->vals 0= .pointer (some ⟨q,1,none⟩))/\(L 1=true->vals 1= .string (bs x.1.t))/\(L 2=true->vals 2= .pointer (some ⟨q,3,none⟩))/\(L 3=true->vals 3= .int .i64 x.2)/\(L 4=true->vals 4= .pointer (some ⟨b,0,none⟩))/\JD b w0 K (bs x.1.t) x.2 C D (L 1) (L 3) (L 5) (L 6) (L 7) (L 8) (L 9) (vals 5) (vals 6) (vals 7) (vals 8) w) ?_ ?_ n hn hin ?_ ?_
 ·intro L L' vals w hL j
  simp only [<-hL 0 (by omega),<-hL 1 (by omega),<-hL 2 (by omega),<-hL 3 (by omega),<-hL 4 (by omega),<-hL 5 (by omega),<-hL 6 (by omega),<-hL 7 (by omega),<-hL 8 (by omega),<-hL 9 (by omega)]
  exact j
 ·intro vals
  exact ⟨nofun,nofun,nofun,nofun,nofun,nofun,nofun,nofun,(Gr.refl _).drew,fun _=>hC.drew hC0,nofun,nofun,nofun,nofun⟩
 ·intro i o ho hi a' w L vals j vB had hun hev rG K0 hK2
  obtain ⟨j0,j1,j2,j3,j4,j⟩:=j
  subst hops
  have hdp:∀i':Nat,i' < 10->dep _ i i'=true->L i'=true:=fun i' _ hd=>by
   obtain ⟨e,he,hon,hb⟩:=vG hd ho
   have:=rG e he hb
   rwa [hon] at this
  have gs:=j.gr.size
  have adz:ag w q 53 (T4 x.1.k (bs x.1.t) x.1.n x.2):=hbq.gr j.gr (by omega)
  rcases (show i=0\/i=1\/i=2\/i=3\/i=4\/i=5\/i=6\/i=7\/i=8\/i=9 by omega) with rfl|rfl|rfl|rfl|rfl|rfl|rfl|rfl|rfl|rfl
  ·obtain rfl:=Option.some.inj ho
   exact aY (LH _ _ _ _ _ _ _ 1 q (.inl rfl) ((hun tb nb).trans htb)) (hK2 _ _ ⟨fun _=>rfl,j1,j2,j3,j4,j⟩)
  ·obtain rfl:=Option.some.inj ho
   have l0:=hdp 0 (by omega) e10
   exact aY (SV _ _ _ _ _ _ _ q 1 _ ((hev 0 _ _ (by omega) rfl rfl l0).trans (j0 l0)) (adz.cell 1)) (hK2 _ _ ⟨j0,fun _=>rfl,j2,j3,j4,⟨j.d1,j.d2,j.d3,j.gr,j.q0,j.p1,j.s1,j.b1,j.a1⟩⟩)
  ·obtain rfl:=Option.some.inj ho
   exact aY (LH _ _ _ _ _ _ _ 3 q (.inr rfl) ((hun tb nb).trans htb)) (hK2 _ _ ⟨j0,j1,fun _=>rfl,j3,j4,j⟩)
  ·obtain rfl:=Option.some.inj ho
   have l2:=hdp 2 (by omega) e32
   exact aY (SX _ _ _ _ _ _ _ q 3 _ ((hev 2 _ _ (by omega) rfl rfl l2).trans (j2 l2)) (adz.cell 3)) (hK2 _ _ ⟨j0,j1,j2,fun _=>rfl,j4,⟨j.d1,j.d2,j.d3,j.gr,j.q0,j.p1,j.s1,j.b1,j.a1⟩⟩)
  ·obtain rfl:=Option.some.inj ho
   exact aY (qd _ _ _ _ _ _ _ _ ((hun tp np).trans htp)) (hK2 _ _ ⟨j0,j1,j2,j3,fun _=>rfl,j⟩)
  ·
   obtain rfl:=Option.some.inj ho
   have l4:=hdp 4 (by omega) e54
   have l6:=rY j.d1 vB
   have l7:L 7=false:=rY j.d2 l6
   have l9:L 9=false:=rY (fun h=>(j.d3 h).1) l7
   refine fP (hrun a' _ ((hev 4 _ _ (by omega) rfl rfl l4).trans (j4 l4))) ((hcall w (j.q0 vB)).mono ?_)
   rintro e w1 ⟨hg,⟨c,hbc,rfl⟩|⟨k,op,nn,p,t,aa,ks,A,c,rfl,hk1,hd1⟩⟩
   ·exact hbad a' w1 c had hbc (j.gr.trans hg)
   ·refine hK2 _ _ ⟨j0,j1,j2,j3,j4,fun _=>rfl,j.d2,j.d3,j.gr.trans hg,nofun,fun _ _=>⟨k,op,nn,p,t,aa,ks,A,c,rfl,hk1.mono gs,fun z hal hz=>?_,hd1⟩,fun h=>?_,j.b1,fun h=>?_⟩
    ·obtain ⟨z',h1,_,h3,_⟩:=j.a1 hal
     have hz:vals 8= .pointer (some ⟨z,0,none⟩):=hz
     rw [h1] at hz
     have e:z'=z:=by injection hz with hz;injection hz with hz;injection hz
     subst e
     exact (hk1.x h3).mono gs
    ·rw [show upd L 5 true 6=L 6 from rfl,l6] at h;cases h
    ·obtain ⟨z,h1,h2,h3,h4,_⟩:=j.a1 h
     exact ⟨z,h1,h2,Nat.lt_of_lt_of_le h3 hg.size,fun h9=>(h4 h9).call hg (by omega),fun h9=>(by rw [show upd L 5 true 9=L 9 from rfl,l9] at h9;cases h9)⟩
  ·
   obtain rfl:=Option.some.inj ho
   have l5:=hdp 5 (by omega) e65
   have l7:L 7=false:=rY j.d2 vB
   have l9:L 9=false:=rY (fun h=>(j.d3 h).1) l7
   obtain ⟨k,op,nn,p,t,aa,ks,A,c,hv5,hk1,hx1,hd1⟩:=j.p1 l5 vB
   have wW:=aI.lit (n:=1) (bO.single (hk1.rep k op nn p t aa)) gs (by simp [maxLen]) rfl
   refine aY (Ih _ _ _ _ _ _ _ _ _ _ _ _ _ A ks.length c ((hev 5 _ _ (by omega) rfl rfl l5).trans hv5)) (hK2 _ _ ⟨j0,j1,j2,j3,j4,fun _=>l5,fun h=>?_,j.d3,j.gr.alloc _,fun h=>?_,nofun,fun _=>⟨_,_,rfl,wW,fun z hal hz=>?_,(hD _).alloc hd1 _⟩,fun h=>?_,fun h=>?_⟩)
   ·rw [show upd L 6 true 7=L 7 from rfl,l7] at h;cases h
   ·rw [show upd L 6 true 5=L 5 from rfl,l5] at h;cases h
   ·have hxx:=hx1 z hal hz
    obtain ⟨z',h1,_,h3,_⟩:=j.a1 hal
    have hz:vals 8= .pointer (some ⟨z,0,none⟩):=hz
    rw [h1] at hz
    have e:z'=z:=by injection hz with hz;injection hz with hz;injection hz
    subst e
    exact (ah.lI hxx.p gs (fun q hq=>by have h9:q=z':=hq;omega)).x rfl
   ·rw [show upd L 6 true 7=L 7 from rfl,l7] at h;cases h
   ·obtain ⟨z,h1,h2,h3,h4,_⟩:=j.a1 h
    exact ⟨z,h1,h2,by simp;omega,fun h9=>(h4 h9).alloc _,fun h9=>(by rw [show upd L 6 true 9=L 9 from rfl,l9] at h9;cases h9)⟩
  ·
   obtain rfl:=Option.some.inj ho
   have l1:=hdp 1 (by omega) e71
   have l3:=hdp 3 (by omega) e73
   have l6:=hdp 6 (by omega) e76
   have l9:L 9=false:=rY (fun h=>(j.d3 h).1) vB
   obtain ⟨g,t,h4,_,_,_⟩:=j.s1 l6
   refine aY (Vy _ _ _ _ _ _ _ K x.2 (bs x.1.t) (some ⟨g,0,none⟩) 1 1 _ _ rfl ((hev 1 _ _ (by omega) rfl rfl l1).trans (j1 l1)) ((hev 3 _ _ (by omega) rfl rfl l3).trans (j3 l3)) ((hev 6 _ _ (by omega) rfl rfl l6).trans h4)) (hK2 _ _ ⟨j0,j1,j2,j3,j4,j.d1,fun _=>l6,fun h=>?_,j.gr,j.q0,j.p1,j.s1,fun _=>by rw [show upd vals 7 _ 6=vals 6 from rfl,h4];rfl,j.a1⟩)
   rw [show upd L 7 true 9=L 9 from rfl,l9] at h;cases h
  ·
   obtain rfl:=Option.some.inj ho
   have l9:L 9=false:=rY (fun h=>(j.d3 h).2) vB
   refine aY (Ls _ _ _ _ _ _) (hK2 _ _ ⟨j0,j1,j2,j3,j4,j.d1,j.d2,fun h=>?_,j.gr.alloc _,fun h=>hC.alloc (j.q0 h) _,fun h1 h2=>?_,fun h=>?_,j.b1,fun _=>⟨_,rfl,gs,by simp,fun _=>ag.new _ _ _,fun h9=>(by rw [show upd L 8 true 9=L 9 from rfl,l9] at h9;cases h9)⟩⟩)
   ·rw [show upd L 8 true 9=L 9 from rfl,l9] at h;cases h
   ·obtain ⟨k,op,nn,p,t,aa,ks,A,c,hv5,hk1,_,hd1⟩:=j.p1 h1 h2
    refine ⟨k,op,nn,p,t,aa,ks,A,c,hv5,hk1.alloc _,fun z _ hz=>?_,(hD _).alloc hd1 _⟩
    have hz:Value.pointer (some ⟨w.heap.size,0,none⟩)= .pointer (some ⟨z,0,none⟩):=hz
    have e:w.heap.size=z:=by injection hz with hz;injection hz with hz;injection hz
    subst e
    exact hk1.fresh rfl _
   ·obtain ⟨g,t,h4,h5,_,h7⟩:=j.s1 h
    refine ⟨g,t,h4,h5.alloc _,fun z _ hz=>?_,(hD _).alloc h7 _⟩
    have hz:Value.pointer (some ⟨w.heap.size,0,none⟩)= .pointer (some ⟨z,0,none⟩):=hz
    have e:w.heap.size=z:=by injection hz with hz;injection hz with hz;injection hz
    subst e
    exact h5.fresh rfl _
  ·
   obtain rfl:=Option.some.inj ho
   have l8:=hdp 8 (by omega) e98
   have l7:=hdp 7 (by omega) e97
   have l6:=j.d2 l7
   have l5:=j.d1 l6
   obtain ⟨g,t,h4,_,h6,h7⟩:=j.s1 l6
   obtain ⟨z,z1,z2,z3,z4,_⟩:=j.a1 l8
   have hb2:=j.b1 l7
   have hzx:=h6 z l8 z1
   rw [h4] at hb2
   refine Ci _ _ K 0 0 [] x.1.t x.2 1 1 (some ⟨g,0,none⟩) ((hev 8 _ _ (by omega) rfl rfl l8).trans z1) ((hev 7 _ _ (by omega) rfl rfl l7).trans hb2) (z4 vB) fun w' hz hg=>?_
   have gw:=wz z2 hg
   have adA:aN w' w0.heap.size z (vals 6) [t]:=hzx.gr hg fun g' _ hne _ he=>hne he
   refine hK2 _ _ ⟨j0,j1,j2,j3,j4,j.d1,j.d2,fun _=>⟨l7,l8⟩,j.gr.wide hg (fun k hk he=>by have:k=z:=he;omega),fun h=>?_,fun _ h=>?_,fun _=>⟨g,t,h4,adA.kid,fun z' _ hz'=>?_,hD t _ _ h7 gw⟩,j.b1,fun _=>⟨z,z1,z2,Nat.lt_of_lt_of_le z3 hg.size,nofun,fun _=>?_⟩⟩
   ·rw [show upd L 9 true 5=L 5 from rfl,l5] at h;cases h
   ·rw [show upd L 9 true 6=L 6 from rfl,l6] at h;cases h
   ·have hz':vals 8= .pointer (some ⟨z',0,none⟩):=hz'
    rw [z1] at hz'
    have e:z=z':=by injection hz' with hz';injection hz' with hz';injection hz'
    subst e
    exact adA
   ·rw [show upd vals 9 undef 6=vals 6 from rfl,h4]
    exact hz
 ·intro vals w a' ha _ _ _ _ j
  obtain ⟨_,_,_,_,_,j⟩:=j
  obtain ⟨g,t,h4,_,h6,h7⟩:=j.s1 rfl
  obtain ⟨z,z1,z2,_,_,z5⟩:=j.a1 rfl
  have Lt:=z5 rfl
  have hzx:=h6 z rfl z1
  rw [h4] at Lt hzx
  have:=hnext vals w t z g z1 z2 h7 j.gr Lt hzx
  rw [<-ha] at this
  rw [hsz]
  exact sQ hr this
end Go.Proofs.YtnhidldofjengaaGreatDoor
