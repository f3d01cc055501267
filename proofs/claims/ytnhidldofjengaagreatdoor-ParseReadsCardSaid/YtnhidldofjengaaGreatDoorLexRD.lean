/- Both parsers, part 2. -/
import Derived.Test.YtnhidldofjengaaGreatDoorProg
import Derived.WalkKit
import Derived.Below
import Derived.Laws.OwnMore
import Derived.Deep.AppendLies
import Derived.Deep.Draws
import Derived.Laws.Rows
import Derived.Maps.AppendAt
import Derived.RegionTactic
import Derived.OwnWalk
import Derived.StillTailTactics
import Derived.Deep.RegionHeld3
import Derived.Deep.RegionLaw
import Derived.WalkSpells
import Derived.Laws.Pointers
import Derived.Laws.NewBlocks
import Derived.KernelRfl
import Derived.Lib.Hide
import Derived.Outline
import Derived.BigQuiet
import Derived.Deep.QuietTactic
import Derived.LoopTactic
import Derived.Lib.AtoiErrMem
import Derived.Laws.BytesArg
import Derived.Laws.IdiomStrings
import Derived.Orders
import Derived.OrdersHeld
import Derived.Test.YtnhidldofjengaaGreatDoorShelf
namespace Go.Proofs.YtnhidldofjengaaGreatDoor
open Go.RowKit
set_option linter.unusedVariables false
set_option linter.unusedSimpArgs false
set_option maxRecDepth 100000
set_option maxHeartbeats 4000000
theorem aS {α:Type} (a:α):∃b,a=b:=⟨a,rfl⟩
theorem uj {α:Type} (a:α):∃b,b=a:=⟨a,rfl⟩
theorem af {p:Prop} (h:p):RowKit.Hid p:=h
abbrev N7 (k op m:Int) (p t:ByteArray) (a:Int) (v:Value):Array Value:=#[.int .i64 k,.int .i64 op,.int .i64 m,.string p,.string t,.int .i64 a,v]
abbrev T4 (k:Int) (t:ByteArray) (n p:Int):Array Value:=#[.int .i64 k,.string t,.int .i64 n,.int .i64 p]
abbrev Z7:Array Value:=#[.int .i64 0,.int .i64 0,.int .i64 0,.string ⟨#[]⟩,.string ⟨#[]⟩,.int .i64 0,.slice none 0 0]
theorem I7 (a:Addr) (n:Nat):(a.add n).block=a.block:=by unfold Addr.add;split <;> rfl
def Reads (w:World) (B size:Nat) (A:Option Addr) (n:Nat) (xs:List Value):Prop:=
 xs.length=n*size/\(0 < n->∃ad,A=some ad/\ad.block < B/\∀j u,xs[j]? =some u->w.cell? (ad.add j)=some u)
section
variable {w w' : World} {B B' size n : Nat} {A : Option Addr} {xs : List Value}
theorem Reads.none_:Reads w B size A 0 []:=⟨by simp,fun h=>absurd h (by omega)⟩
theorem Reads.at_ {k:Nat} (h:Reads w B 1 A n xs) (hk:k < n):∃ad u,A=some ad/\ad.block < B/\xs[k]? =some u/\w.cell? (ad.add k)=some u:=by
 obtain ⟨ad,e,hb,hc⟩:=h.2 (by omega)
 have hl:k < xs.length:=by have:=h.1;omega
 exact ⟨ad,xs[k],e,hb,List.getElem?_eq_getElem hl,hc k _ (List.getElem?_eq_getElem hl)⟩
theorem Reads.keep (h:Reads w B size A n xs) (hk:∀p:Addr,p.block < B->w'.cell? p=w.cell? p):Reads w' B size A n xs:=
 ⟨h.1,fun hn=>by
  obtain ⟨ad,e,hb,hc⟩:=h.2 hn
  exact ⟨ad,e,hb,fun j u hu=>(hk _ (by rw [I7];exact hb)).trans (hc j u hu)⟩⟩
theorem Reads.more (h:Reads w B size A n xs) (hB:B<=B'):Reads w B' size A n xs:=
 ⟨h.1,fun hn=>by
  obtain ⟨ad,e,hb,hc⟩:=h.2 hn
  exact ⟨ad,e,by omega,hc⟩⟩
theorem Reads.below (h:Reads w B size A n xs) (hb:Below B w w'):Reads w' B size A n xs:=h.keep fun _ hp=>hb.cell hp
theorem Reads.drew (h:Reads w B size A n xs):Reads w.drew B size A n xs:=h
theorem Reads.drewN (h:Reads w B size A n xs) (k:Nat):Reads (w.drewN k) B size A n xs:=h
theorem Reads.alloc (h:Reads w B size A n xs) (hB:B<=w.heap.size) (o:Obj):Reads (w.alloc o) B size A n xs:=h.keep fun p hp=>World.cell?_alloc_lt w o p (by omega)
theorem Reads.setCell (h:Reads w B size A n xs) {p:Addr} (hB:B<=p.block) (u:Value):Reads (w.setCell p u) B size A n xs:=
 h.keep fun q hq=>World.cell?_setCell_other w p q u (fun e=>by subst e;omega)
theorem Reads.grown (h:Reads w B size A n xs) {row:Option Nat} (hg:w.grownBy w' row) (hB:B<=w.heap.size) (hr:∀g,row=some g->B<=g):Reads w' B size A n xs:=
 h.keep fun p hp=>World.cell?_of_block (hg.block p.block (by omega) (fun e=>by have:=hr _ e.symm;omega))
theorem Reads.Ny {base:Nat} {e:TypeId} {c:Nat} (h:w.ownsRow base e size (.slice A n c) n xs):Reads w w.heap.size size A n xs:=by
 refine ⟨h.1,fun hn=>?_⟩
 obtain ⟨g,cap,hv,_,hlt⟩:=h.form hn
 have hA:A=some ⟨g,0,none⟩:=by injection hv
 subst hA
 exact ⟨_,rfl,hlt,h.cells (g:=g) rfl⟩
end
def ag (w:World) (g:Nat) (t:TypeId) (cs:Array Value):Prop:=w.heap[g]? =some (.cells cs t (0,0))
section
variable {w w' : World} {g : Nat} {t : TypeId} {cs : Array Value}
theorem ag.lt (h:ag w g t cs):g < w.heap.size:=by
 rcases Nat.lt_or_ge g w.heap.size with hlt|hge
 ·exact hlt
 ·unfold ag at h;rw [Array.getElem?_eq_none hge] at h;cases h
theorem ag.cell (h:ag w g t cs) (i:Nat):w.cell? ⟨g,i,none⟩=cs[i]? :=cell_of_row w g i cs t (0,0) h
theorem ag.frozen (h:ag w g t cs) (i:Nat):w.frozen? ⟨g,i,none⟩=false:=by
 unfold ag at h
 simp [World.frozen?,h]
theorem ag.new (w:World) (t:TypeId) (cs:Array Value):ag (w.alloc (.cells cs t)) w.heap.size t cs:=heap_alloc_new w _
theorem ag.drew (h:ag w g t cs):ag w.drew g t cs:=h
theorem ag.drewN (h:ag w g t cs) (n:Nat):ag (w.drewN n) g t cs:=h
theorem ag.alloc (h:ag w g t cs) (o:Obj):ag (w.alloc o) g t cs:=(Below.heap_alloc w o g h.lt).trans h
theorem ag.ny (h:ag w g t cs) (i:Nat) (u:Value):ag (w.setCell ⟨g,i,none⟩ u) g t (cs.setIfInBounds i u):=by
 unfold ag at h |-
 simp [World.setCell,Array.getElem?_modify,h]
theorem ag.far (h:ag w g t cs) {p:Addr} (hp:g≠p.block) (u:Value):ag (w.setCell p u) g t cs:=(Below.heap_setCell w p u g hp).trans h
theorem ag.below {B:Nat} (h:ag w g t cs) (hb:Below B w w') (hg:g < B):ag w' g t cs:=(hb.block g hg).trans h
theorem ag.grown {row:Option Nat} (h:ag w g t cs) (hb:w.grownBy w' row) (hg:some g≠row):ag w' g t cs:=(hb.block g h.lt hg).trans h
theorem ag.ne_ {g':Nat} {t':TypeId} {cs':Array Value} (h:ag w g t cs) (h':ag w g' t' cs') (hne:t≠t'):g≠g':=by
 rintro rfl
 unfold ag at h h'
 rw [h] at h'
 injection h' with h'
 injection h' with _ ht
 exact hne ht
end
section
variable {P : Program} (w : World)
theorem Av (base:Nat) (t ty e:TypeId) (i:TypeInfo) (size:Nat) (ht:P.underlying t=some (.slice e)) (hi:P.info? e=some i)
  (v:Value) (n:Nat) (xs:List Value) (hown:w.ownsRow base e size v n xs) (c:Nat):(Builtin.append_ #[t,t] ty #[v,.slice none 0 c]).run P w= .ok v w:=by
 rcases hown.2 with ⟨rfl,rfl⟩|⟨g,cap,cur,rfl,_,_,hnc,_⟩
 ·simp [Builtin.append_,run_underlying ht,sizeOf,typeInfo,hi,Builtin.lenOf,Builtin.firstCells]
 ·simp [Builtin.append_,run_underlying ht,sizeOf,typeInfo,hi,Builtin.lenOf,Builtin.firstCells,hnc,storeCells]
theorem Ef (base:Nat) (t ty e:TypeId) (i:TypeInfo) (z:Value) (size bytes:Nat) (ht:P.underlying t=some (.slice e)) (hi:P.info? e=some i) (hz:i.zero=some z)
  (hsize:i.size=size) (hby:i.bytes=bytes) (hzs:z.cells.size=size) (hsz:0 < size)
  (v:Value) (n:Nat) (xs:List Value) (hown:w.ownsRow base e size v n xs)
  (B:Nat) (A:Option Addr) (m c:Nat) (news:List Value) (hr:Reads w B size A m news) (h1:∀u∈news,u.oneCell'=true)
  (h63:n+m<=maxLen) (hbytes:(n+m)*bytes<=140737488355328) (hbase:base<=w.heap.size):
  ∃v' w',(Builtin.append_ #[t,t] ty #[v,.slice A m c]).run P w= .ok v' w'/\w'.ownsRow base e size v' (n+m) (xs ++ news)/\w.grownBy w' v.ownBlock/\
   (v'.ownBlock=v.ownBlock\/v'.ownBlock=some w.heap.size):=by
 rcases A with _|ad
 ·have hm:m=0:=by
   rcases Nat.eq_zero_or_pos m with h0|h0
   ·exact h0
   ·obtain ⟨ad,h,_⟩:=hr.2 h0
    cases h
  subst hm
  have hn:news=[]:=List.eq_nil_of_length_eq_zero (by simpa using hr.1)
  subst hn
  exact ⟨v,w,Av w base t ty e i size ht hi v n xs hown c,by simpa using hown,World.grownBy.refl w _,.inl rfl⟩
 ·have hcells:∀j u,news[j]? =some u->w.cell? (ad.add j)=some u:=by
   intro j u hu
   rcases Nat.eq_zero_or_pos m with h0|h0
   ·subst h0
    have hn:news=[]:=List.eq_nil_of_length_eq_zero (by simpa using hr.1)
    subst hn
    simp at hu
   ·obtain ⟨ad',h,_,hc⟩:=hr.2 h0
    injection h with h
    subst h
    exact hc j u hu
  obtain ⟨v',w',hrun,h2,h3,_,h5⟩:=run_append_own_at (P:=P) w base t ty e i z size bytes ht hi hz hsize hby hzs hsz v n xs hown ad m c news hr.1 hcells h1 h63 hbytes hbase
  exact ⟨v',w',hrun,h2,h3,h5⟩
theorem ry {o:Oper} {a:Act} {K:Act->World->Prop} {Q:Exit->Act->World->Prop} (s x:Operand) (t:TypeId)
  (ho:o.op= .call { callee:=.builtin .append,args:=#[s,x],argTypes:=#[t,t] })
  (base:Nat) (e:TypeId) (i:TypeInfo) (z:Value) (size bytes:Nat) (ht:P.underlying t=some (.slice e)) (hi:P.info? e=some i) (hz:i.zero=some z)
  (hsize:i.size=size) (hby:i.bytes=bytes) (hzs:z.cells.size=size) (hsz:0 < size)
  (v:Value) (n:Nat) (xs:List Value) (hs:a.eval s=v) (hown:w.ownsRow base e size v n xs)
  (B:Nat) (A:Option Addr) (m c:Nat) (news:List Value) (hx:a.eval x= .slice A m c) (hr:Reads w B size A m news) (h1:∀u∈news,u.oneCell'=true)
  (h63:n+m<=maxLen) (hbytes:(n+m)*bytes<=140737488355328) (hbase:base<=w.heap.size)
  (h:∀v' w',w'.ownsRow base e size v' (n+m) (xs ++ news)->w.grownBy w' v.ownBlock->(v'.ownBlock=v.ownBlock\/v'.ownBlock=some w.heap.size)->K (a.put o.dst v') w'):o.wp P a w K Q:=by
 obtain ⟨v',w',hrun,h2,h3,h4⟩:=Ef (P:=P) w base t o.type e i z size bytes ht hi hz hsize hby hzs hsz v n xs hown B A m c news hr h1 h63 hbytes hbase
 unfold Oper.wp execOp
 simp only [ho,resolve,invoke,builtin,Sem.run_bind,Sem.run_pure,Result.andThen_ok,List.map_toArray,List.map_cons,List.map_nil,hs,hx,hrun]
 exact h v' w' h2 h3 h4
theorem fe {ops:Array Oper} {rest:List Oper} {o:Oper} {a:Act} {Q:Exit->Act->World->Prop} (hgd:o.guard=none) (s x:Operand) (t:TypeId)
  (ho:o.op= .call { callee:=.builtin .append,args:=#[s,x],argTypes:=#[t,t] })
  (base:Nat) (e:TypeId) (i:TypeInfo) (z:Value) (size bytes:Nat) (ht:P.underlying t=some (.slice e)) (hi:P.info? e=some i) (hz:i.zero=some z)
  (hsize:i.size=size) (hby:i.bytes=bytes) (hzs:z.cells.size=size) (hsz:0 < size)
  (v:Value) (n:Nat) (xs:List Value) (hs:a.eval s=v) (hown:w.ownsRow base e size v n xs)
  (B:Nat) (A:Option Addr) (m c:Nat) (news:List Value) (hx:a.eval x= .slice A m c) (hr:Reads w B size A m news) (h1:∀u∈news,u.oneCell'=true)
  (h63:n+m<=maxLen) (hbytes:(n+m)*bytes<=140737488355328) (hbase:base<=w.heap.size)
  (h:∀v' w',w'.ownsRow base e size v' (n+m) (xs ++ news)->w.grownBy w' v.ownBlock->(v'.ownBlock=v.ownBlock\/v'.ownBlock=some w.heap.size)->wpList P ops Q rest (a.put o.dst v') w'):wpList P ops Q (o :: rest) a w:=
 wpList_plain hgd fun _ hK=>ry w s x t ho base e i z size bytes ht hi hz hsize hby hzs hsz v n xs hs hown B A m c news hx hr h1 h63 hbytes hbase fun v' w' h2 h3 h4=>hK _ _ (h v' w' h2 h3 h4)
end
theorem kM {w:World} {base n size:Nat} {e:TypeId} {v:Value} {xs:List Value} (h:w.ownsRow base e size v n xs):∃A c,v= .slice A n c:=by
 rcases h.2 with ⟨rfl,rfl⟩|⟨g,cap,cur,rfl,_⟩
 ·exact ⟨_,_,rfl⟩
 ·exact ⟨_,_,rfl⟩
theorem Eg {w:World} {base base' n size:Nat} {e:TypeId} {v:Value} {xs:List Value} (h:w.ownsRow base e size v n xs) (hb:base'<=base):w.ownsRow base' e size v n xs:=by
 refine ⟨h.1,?_⟩
 rcases h.2 with h2|⟨g,cap,cur,hv,hg,r⟩
 ·exact .inl h2
 ·exact .inr ⟨g,cap,cur,hv,Nat.le_trans hb hg,r⟩
theorem own_below {w w':World} {base n size:Nat} {e:TypeId} {v:Value} {xs:List Value} (h:w.ownsRow base e size v n xs) (hb:Below w.heap.size w w'):w'.ownsRow base e size v n xs:=
 h.kept (row:=none) ⟨hb.os,hb.tape,hb.output,hb.size,fun k hk _=>hb.block k hk⟩ (by cases hv:v.ownBlock <;> simp)
theorem zI {w w1 w2:World} (h:Below w.heap.size w w1) (k:Below w1.heap.size w1 w2):Below w.heap.size w w2:=h.trans (k.mono h.size)
theorem iW (w:World) (c:Array Value) (t:TypeId):Below w.heap.size w (w.alloc (.cells c t)):=(Below.refl _ _).alloc (Nat.le_refl _) _
theorem kQ {w w1:World} {c:Array Value} {t:TypeId} (hb:Below (w.alloc (.cells c t)).heap.size (w.alloc (.cells c t)) w1):
  (∀i v,c[i]? =some v->w1.cell? ⟨w.heap.size,i,none⟩=some v)/\(∀i,w1.frozen? ⟨w.heap.size,i,none⟩=false)/\w.heap.size+1<=w1.heap.size/\Below w.heap.size w w1:=by
 refine ⟨fun i v h=>?_,fun i=>?_,by have:=hb.size;simpa using this,zI (iW _ _ _) hb⟩
 ·rw [hb.cell (p:=⟨w.heap.size,i,none⟩) (by simp),World.cell?_alloc_at _ _ _ _ rfl]
  exact h
 ·rw [hb.frozen (p:=⟨w.heap.size,i,none⟩) (by simp),World.frozen?_alloc_at _ _ _ _ rfl]
theorem bY {B b:Nat} {w w1:World} (h:Below B w w1) (hb:B<=b) (v0 v1 v2 v3:Value):Below B w ((((w1.setCell ⟨b,0,none⟩ v0).setCell ⟨b,1,none⟩ v1).setCell ⟨b,2,none⟩ v2).setCell ⟨b,3,none⟩ v3):=
 (((h.setCell (p:=⟨b,0,none⟩) hb _).setCell (p:=⟨b,1,none⟩) hb _).setCell (p:=⟨b,2,none⟩) hb _).setCell (p:=⟨b,3,none⟩) hb _
theorem Yv {P:Program} {id:Nat} {Q:Exit->Act->World->Prop} {a:Act} {w:World} {l:List Oper} (n:Nat) (hm:P.follows .mixedOrders=true) (hB:Region.lexTailB .any l.toArray n=true)
  (h:∀W,w.drew=W->wpStill P l.toArray W (fun a'=>wpList P l.toArray Q (l.drop n) a' W) (l.take n) a):(Code.region id l.toArray true).wp P Q a w:=
 wp_region_still_tail n hm hB (h _ rfl)
theorem uR {a b:Bool} (h:a=b):Ending.returned (.bool a)= .returned (.bool b):=by rw [h]
theorem rz {k:IntKind} {a b:Int} (h:a=b):Ending.returned (.int k a)= .returned (.int k b):=by rw [h]
def yZ (c:UInt8):Bool:=decide (97<=(c.toNat:Int)/\(c.toNat:Int)<=122) || decide (65<=(c.toNat:Int)/\(c.toNat:Int)<=90) || decide ((c.toNat:Int)=95)
def nA (c:UInt8):Bool:=decide (48<=(c.toNat:Int)/\(c.toNat:Int)<=57)
def xq (c:UInt8):Bool:=yZ c || nA c
def Sb (c:UInt8):Bool:=decide ((c.toNat:Int)=32\/(c.toNat:Int)=9\/(c.toNat:Int)=10\/(c.toNat:Int)=13)
theorem pO (c:UInt8) (w:World):Calls Tryz.prog 33 #[.int .u8 c.toNat] w fun e w'=>e= .returned (.bool (nA c))/\w=w':=by
 go_enter Tryz.func33,Tryz.ntmps33
 go_wp2
 all_goals (go_ret;exact ⟨uR (by unfold nA;rw [Bool.eq_iff_iff];simp;try omega),rfl⟩)
theorem Hy (c:UInt8) (w:World):Calls Tryz.prog 30 #[.int .u8 c.toNat] w fun e w'=>e= .returned (.bool (Sb c))/\w=w':=by
 go_enter Tryz.func30,Tryz.ntmps30
 go_wp2
 all_goals (go_ret;exact ⟨uR (by unfold Sb;rw [Bool.eq_iff_iff];simp [*];try omega),rfl⟩)
theorem mO (c:UInt8) (w:World):Calls Tryz.prog 31 #[.int .u8 c.toNat] w fun e w'=>e= .returned (.bool (yZ c))/\w=w':=by
 go_enter Tryz.func31,Tryz.ntmps31
 go_wp2
 all_goals (go_ret;exact ⟨uR (by unfold yZ;rw [Bool.eq_iff_iff];simp [*];try omega),rfl⟩)
theorem gQ (c:UInt8) (w:World):Calls Tryz.prog 73 #[.int .u8 c.toNat] w fun e w'=>e= .returned (.bool (yZ c))/\w=w':=by
 go_enter Tryz.func73,Tryz.ntmps73
 go_wp2
 all_goals (go_ret;exact ⟨uR (by unfold yZ;rw [Bool.eq_iff_iff];simp [*];try omega),rfl⟩)
theorem iA (c:UInt8) (w:World):Calls Tryz.prog 74 #[.int .u8 c.toNat] w fun e w'=>e= .returned (.bool (nA c))/\w=w':=by
 go_enter Tryz.func74,Tryz.ntmps74
 go_wp2
 all_goals (go_ret;exact ⟨uR (by unfold nA;rw [Bool.eq_iff_iff];simp;try omega),rfl⟩)
theorem Eh (c:UInt8) (w:World):Calls Tryz.prog 56 #[.int .u8 c.toNat] w fun e w'=>e= .returned (.bool (xq c))/\w=w':=by
 unfold xq
 cases hl:yZ c
 ·have hl:=af hl
  go_enter Tryz.func56,Tryz.ntmps56
  go_wp2_with (first|(go_at_call 31;refine (mO _ _).mono ?_;rw [hl.out];rintro e w' ⟨rfl,rfl⟩)|(go_at_call 33;refine (pO _ _).mono ?_;rintro e w' ⟨rfl,rfl⟩))
  go_ret
  exact ⟨rfl,rfl⟩
 ·have hl:=af hl
  go_enter Tryz.func56,Tryz.ntmps56
  go_wp2_with (first|(go_at_call 31;refine (mO _ _).mono ?_;rw [hl.out];rintro e w' ⟨rfl,rfl⟩)|(go_at_call 33;refine (pO _ _).mono ?_;rintro e w' ⟨rfl,rfl⟩))
  go_ret
  exact ⟨rfl,rfl⟩
def words:List (List UInt8):=[[112,97,99,107,97,103,101],[105,109,112,111,114,116],[99,111,110,115,116],[118,97,114],[116,121,112,101],[115,116,114,117,99,116],[105,110,116,101,114,102,97,99,101],[102,117,110,99],[105,102],[101,108,115,101],[102,111,114],[98,114,101,97,107],[99,111,110,116,105,110,117,101],[114,101,116,117,114,110],[105,110,116],[98,111,111,108],[115,116,114,105,110,103],[116,114,117,101],[102,97,108,115,101],[110,105,108],[97,110,121],[99,111,109,112,97,114,97,98,108,101],[108,101,110],[97,112,112,101,110,100],[109,97,107,101],[112,97,110,105,99],[112,117,116],[103,101,116]]
def KT (s:ByteArray):Bool:=words.contains s.toList
theorem UD {s:ByteArray} (h:KT s=false):(s.toList == [112,97,99,107,97,103,101])=false/\(s.toList == [105,109,112,111,114,116])=false/\(s.toList == [99,111,110,115,116])=false/\(s.toList == [118,97,114])=false/\(s.toList == [116,121,112,101])=false/\(s.toList == [115,116,114,117,99,116])=false/\(s.toList == [105,110,116,101,114,102,97,99,101])=false/\(s.toList == [102,117,110,99])=false/\(s.toList == [105,102])=false/\(s.toList == [101,108,115,101])=false/\(s.toList == [102,111,114])=false/\(s.toList == [98,114,101,97,107])=false/\(s.toList == [99,111,110,116,105,110,117,101])=false/\(s.toList == [114,101,116,117,114,110])=false/\(s.toList == [105,110,116])=false/\(s.toList == [98,111,111,108])=false/\(s.toList == [115,116,114,105,110,103])=false/\(s.toList == [116,114,117,101])=false/\(s.toList == [102,97,108,115,101])=false/\(s.toList == [110,105,108])=false/\(s.toList == [97,110,121])=false/\(s.toList == [99,111,109,112,97,114,97,98,108,101])=false/\(s.toList == [108,101,110])=false/\(s.toList == [97,112,112,101,110,100])=false/\(s.toList == [109,97,107,101])=false/\(s.toList == [112,97,110,105,99])=false/\(s.toList == [112,117,116])=false/\(s.toList == [103,101,116])=false:=by
 unfold KT words at h
 simp only [List.contains_cons,Bool.or_eq_false_iff,List.contains_nil,and_true] at h
 simpa using h
theorem QD {s:ByteArray} (h:KT s=true):s.toList=[112,97,99,107,97,103,101]\/s.toList=[105,109,112,111,114,116]\/s.toList=[99,111,110,115,116]\/s.toList=[118,97,114]\/s.toList=[116,121,112,101]\/s.toList=[115,116,114,117,99,116]\/s.toList=[105,110,116,101,114,102,97,99,101]\/s.toList=[102,117,110,99]\/s.toList=[105,102]\/s.toList=[101,108,115,101]\/s.toList=[102,111,114]\/s.toList=[98,114,101,97,107]\/s.toList=[99,111,110,116,105,110,117,101]\/s.toList=[114,101,116,117,114,110]\/s.toList=[105,110,116]\/s.toList=[98,111,111,108]\/s.toList=[115,116,114,105,110,103]\/s.toList=[116,114,117,101]\/s.toList=[102,97,108,115,101]\/s.toList=[110,105,108]\/s.toList=[97,110,121]\/s.toList=[99,111,109,112,97,114,97,98,108,101]\/s.toList=[108,101,110]\/s.toList=[97,112,112,101,110,100]\/s.toList=[109,97,107,101]\/s.toList=[112,97,110,105,99]\/s.toList=[112,117,116]\/s.toList=[103,101,116]:=by
 unfold KT words at h
 simp only [List.contains_cons,Bool.or_eq_true,List.contains_nil,Bool.false_eq_true,or_false] at h
 simpa using h
theorem Hz {s:ByteArray} {l:List UInt8} (h:s.toList=l):s=⟨l.toArray⟩:=by
 rw [ByteArray.toList_eq] at h
 subst h
 rfl
theorem Yw (s:ByteArray) (w:World) (h:KT s=false):Calls Tryz.prog 57 #[.string s] w fun e w'=>e= .returned (.bool false)/\w=w':=by
 obtain ⟨h0,h1,h2,h3,h4,h5,h6,h7,h8,h9,h10,h11,h12,Ei,Ej,El,h16,Em,h18,h19,h20,h21,h22,h23,h24,h25,h26,h27⟩:=UD h
 clear h
 go_enter Tryz.func57,Tryz.ntmps57
 go_wp2
 go_ret
 exact ⟨rfl,rfl⟩
theorem UE (s:ByteArray) (w:World) (h:KT s=true):Calls Tryz.prog 57 #[.string s] w fun e w'=>e= .returned (.bool true)/\w=w':=by
 rcases QD h with h|h|h|h|h|h|h|h|h|h|h|h|h|h|h|h|h|h|h|h|h|h|h|h|h|h|h|h
 all_goals
  have h:=Hz h
  subst h
  go_enter Tryz.func57,Tryz.ntmps57
  go_wp2
  go_ret
  exact ⟨rfl,rfl⟩
theorem K4 (s:ByteArray) (w:World):Calls Tryz.prog 57 #[.string s] w fun e w'=>e= .returned (.bool (KT s))/\w=w':=by
 cases h:KT s
 ·exact Yw s w h
 ·exact UE s w h
theorem UF (s:ByteArray) (w:World) (h:KT s=false):Calls Tryz.prog 75 #[.string s] w fun e w'=>e= .returned (.bool false)/\w=w':=by
 obtain ⟨h0,h1,h2,h3,h4,h5,h6,h7,h8,h9,h10,h11,h12,Ei,Ej,El,h16,Em,h18,h19,h20,h21,h22,h23,h24,h25,h26,h27⟩:=UD h
 clear h
 go_enter Tryz.func75,Tryz.ntmps75
 go_wp2
 go_ret
 exact ⟨rfl,rfl⟩
theorem Sc (s:ByteArray) (w:World) (h:KT s=true):Calls Tryz.prog 75 #[.string s] w fun e w'=>e= .returned (.bool true)/\w=w':=by
 rcases QD h with h|h|h|h|h|h|h|h|h|h|h|h|h|h|h|h|h|h|h|h|h|h|h|h|h|h|h|h
 all_goals
  have h:=Hz h
  subst h
  go_enter Tryz.func75,Tryz.ntmps75
  go_wp2
  go_ret
  exact ⟨rfl,rfl⟩
theorem sM (s:ByteArray) (w:World):Calls Tryz.prog 75 #[.string s] w fun e w'=>e= .returned (.bool (KT s))/\w=w':=by
 cases h:KT s
 ·exact UF s w h
 ·exact Sc s w h
def iQ (p:UInt8->Bool) (l:List UInt8):Nat:=(l.takeWhile p).length
theorem pW (p:UInt8->Bool) (l:List UInt8):iQ p l<=l.length:=(List.takeWhile_sublist p).length_le
theorem uS {p:UInt8->Bool} {s:ByteArray} {k:Nat} (hk:k < s.size) (h:p s[k]=true):iQ p (s.data.toList.drop k)=iQ p (s.data.toList.drop (k+1))+1:=by
 have e:s.data.toList.drop k=s[k] :: s.data.toList.drop (k+1):=List.drop_eq_getElem_cons (by simpa using hk)
 rw [e];simp [iQ,h]
theorem D7 {p:UInt8->Bool} {s:ByteArray} {k:Nat} (hk:k < s.size) (h:p s[k]=false):iQ p (s.data.toList.drop k)=0:=by
 have e:s.data.toList.drop k=s[k] :: s.data.toList.drop (k+1):=List.drop_eq_getElem_cons (by simpa using hk)
 rw [e];simp [iQ,h]
theorem K5 (p:UInt8->Bool) (s:ByteArray):iQ p (s.data.toList.drop s.size)=0:=by
 rw [List.drop_eq_nil_of_le (by simp)];rfl
theorem K6 (s:ByteArray) (w:World) (hs:s.size<=maxLen):Calls Tryz.prog 55 #[.string s,.func (.func 56) #[] #[]] w fun e w'=>e= .returned (.int .i64 (iQ xq s.data.toList))/\w=w':=by
 unfold maxLen at hs
 go_enter Tryz.func55,Tryz.ntmps55
 go_wp2
 go_loop [8] (fun i=>∃k:Nat,k<=s.size/\i= .int .i64 k/\iQ xq (s.data.toList.drop k)+k=iQ xq s.data.toList) (fun i=>s.size - (intOf i).toNat)
 case atStart=>exact ⟨0,Nat.zero_le _,rfl,by simp⟩
 case round=>
  obtain ⟨k,hk,rfl,hr⟩:=hrel
  by_cases hlt:k < s.size
  ·cases hp:xq s[k]
   ·have hn:=D7 hlt hp
    have HP:=af hp
    have HR:=af hr
    clear hp hr
    go_wp2_with (go_at_call 56;refine (Eh _ _).mono ?_;rw [HP.out];rintro e w' ⟨rfl,rfl⟩)
    go_ret
    exact ⟨rz (by rw [<-HR.out];omega),rfl⟩
   ·have hy:=uS hlt hp
    have HY:=af hy
    have HP:=af hp
    have HR:=af hr
    clear hp hr hy
    go_wp2_with (go_at_call 56;refine (Eh _ _).mono ?_;rw [HP.out];rintro e w' ⟨rfl,rfl⟩)
    go_round
    case rel=>exact ⟨k+1,by omega,by go_num,by rw [<-HR.out,HY.out];omega⟩
    case measure=>simp [intOf];omega
  ·obtain rfl:k=s.size:=by omega
   rw [K5] at hr
   have HR:=af hr
   clear hr
   go_wp2
   go_ret
   exact ⟨rz (by rw [<-HR.out];omega),rfl⟩
theorem yu (s:ByteArray) (w:World) (hs:s.size<=maxLen):Calls Tryz.prog 55 #[.string s,.func (.func 33) #[] #[]] w fun e w'=>e= .returned (.int .i64 (iQ nA s.data.toList))/\w=w':=by
 unfold maxLen at hs
 go_enter Tryz.func55,Tryz.ntmps55
 go_wp2
 go_loop [8] (fun i=>∃k:Nat,k<=s.size/\i= .int .i64 k/\iQ nA (s.data.toList.drop k)+k=iQ nA s.data.toList) (fun i=>s.size - (intOf i).toNat)
 case atStart=>exact ⟨0,Nat.zero_le _,rfl,by simp⟩
 case round=>
  obtain ⟨k,hk,rfl,hr⟩:=hrel
  by_cases hlt:k < s.size
  ·cases hp:nA s[k]
   ·have hn:=D7 hlt hp
    have HP:=af hp
    have HR:=af hr
    clear hp hr
    go_wp2_with (go_at_call 33;refine (pO _ _).mono ?_;rw [HP.out];rintro e w' ⟨rfl,rfl⟩)
    go_ret
    exact ⟨rz (by rw [<-HR.out];omega),rfl⟩
   ·have hy:=uS hlt hp
    have HY:=af hy
    have HP:=af hp
    have HR:=af hr
    clear hp hr hy
    go_wp2_with (go_at_call 33;refine (pO _ _).mono ?_;rw [HP.out];rintro e w' ⟨rfl,rfl⟩)
    go_round
    case rel=>exact ⟨k+1,by omega,by go_num,by rw [<-HR.out,HY.out];omega⟩
    case measure=>simp [intOf];omega
  ·obtain rfl:k=s.size:=by omega
   rw [K5] at hr
   have HR:=af hr
   clear hr
   go_wp2
   go_ret
   exact ⟨rz (by rw [<-HR.out];omega),rfl⟩
def Aw:List UInt8->Bool
 |a :: b :: _=>a == 47 && b == 47
 |_=>false
def fF:Bool->List UInt8->Nat
 |_,[]=>0
 |true,c :: r=>1+fF (c != 10) r
 |false,c :: r=>if Aw (c :: r) then 1+fF true r else if Sb c then 1+fF false r else 0
theorem pX:∀(b:Bool) (l:List UInt8),fF b l<=l.length
 |_,[]=>by simp [fF]
 |true,c :: r=>by have:=pX (c != 10) r;simp [fF];omega
 |false,c :: r=>by
  have h1:=pX true r
  have h2:=pX false r
  simp only [fF];split
  ·simp;omega
  ·split <;> simp <;> omega
def pY (c:UInt8):UInt8:=if c=110 then 10 else if c=34 then 34 else if c=92 then 92 else 0
structure Tk where
 k:Int
 t:List UInt8
 n:Int
def bs (l:List UInt8):ByteArray:=⟨l.toArray⟩
theorem I8 (l:List UInt8):KT (bs l)=words.contains l:=by unfold KT;rw [ByteArray.toList_eq];simp [bs]
def uD (l:List UInt8):Option (Tk × Nat):=
 if words.contains (l.take (iQ xq l)) then some (⟨2,l.take (iQ xq l),0⟩,iQ xq l)
 else if 16 < iQ xq l then none else some (⟨1,l.take (iQ xq l),0⟩,iQ xq l)
def xu (a:Nat) (c:UInt8):Nat:=a*10+(c.toNat - 48)
def rD (l:List UInt8):Nat:=l.foldl xu 0
def sU (p:UInt8->Bool):List UInt8->Bool
 |[]=>false
 |c :: _=>p c
def mP (l:List UInt8):Option (Tk × Nat):=
 if decide (1 < iQ nA l) && sU (· == 48) l then none
 else if sU yZ (l.drop (iQ nA l)) then none
 else if rD (l.take (iQ nA l)) < 9223372036854775808 then some (⟨3,l.take (iQ nA l),rD (l.take (iQ nA l))⟩,iQ nA l) else none
def qL:Bool->List UInt8->Nat->List UInt8->Option (List UInt8 × Nat)
 |_,_,_,[]=>none
 |true,acc,i,c :: r=>if pY c=0 then none else qL false (acc ++ [pY c]) (i+1) r
 |false,acc,i,c :: r=>if c=92 then qL true acc (i+1) r else if c=34 then (if 100 < acc.length then none else some (acc,i+2)) else if c < 32\/126 < c then none else qL false (acc ++ [c]) (i+1) r
def qa (l:List UInt8):Option (Tk × Nat):=(qL false [] 0 (l.drop 1)).map fun x=>(⟨4,x.1,0⟩,x.2)
def doubles:List (List UInt8):=[[58,61],[61,61],[33,61],[60,61],[62,61],[38,38],[124,124]]
def qb:List UInt8:=[40,41,91,93,123,125,44,59,46,58,61,60,62,43,45,42,47,37,33,38]
def wF (l:List UInt8):Nat:=if doubles.contains (l.take 2) then 2 else if sU (qb.contains ·) l then 1 else 0
def Ay (l:List UInt8):Option (Tk × Nat):=if wF l=0 then none else some (⟨5,l.take (wF l),0⟩,wF l)
def iF (l:List UInt8):Option (Tk × Nat):=if sU yZ l then uD l else if sU nA l then mP l else if sU (· == 34) l then qa l else Ay l
theorem Yx (l:List UInt8):rD l=l.foldl xu 0:=rfl
theorem K7 (l:List UInt8) (a:Nat):a<=l.foldl xu a:=by
 induction l generalizing a with
 |nil=>exact Nat.le_refl _
 |cons c r ih=>exact Nat.le_trans (by unfold xu;omega) (ih _)
theorem Gw (l:List UInt8) (h:∀c∈l,nA c=true) (a:Nat) (ha:a<=18446744073709551615):
  (l.foldl xu a<=18446744073709551615->Lib.parseUintM 18446744073709551615 a l= .ok (l.foldl xu a))/\
  (18446744073709551615 < l.foldl xu a->Lib.parseUintM 18446744073709551615 a l= .range):=by
 induction l generalizing a with
 |nil=>exact ⟨fun _=>rfl,fun h=>absurd h (by show ¬_ < a;omega)⟩
 |cons c r ih=>
  have hc:=h c (by simp)
  unfold nA at hc
  have hd:48<=c.toNat/\c.toNat<=57:=by simp at hc;omega
  have hle:=K7 r (xu a c)
  have hs:xu a c=a*10+(c.toNat - 48):=rfl
  rw [List.foldl_cons]
  simp only [Lib.parseUintM,if_pos hd,<-hs]
  by_cases h1:1844674407370955162<=a
  ·rw [if_pos h1]
   exact ⟨fun h=>by omega,fun _=>rfl⟩
  ·rw [if_neg h1]
   by_cases h2:18446744073709551615 < xu a c
   ·rw [if_pos h2]
    exact ⟨fun h=>by omega,fun _=>rfl⟩
   ·rw [if_neg h2]
    exact ih (fun c hc=>h c (by simp [hc])) _ (by omega)
theorem Az (l:List UInt8) (hne:l≠[]) (h:∀c∈l,nA c=true):
  (rD l < 9223372036854775808->Lib.parseIntB 64 l= .ok (rD l:Int))/\(9223372036854775808<=rD l->Lib.parseIntB 64 l= .range):=by
 match l,hne with
 |c :: r,_=>
  have hc:=h c (by simp)
  unfold nA at hc
  have hd:48<=c.toNat/\c.toNat<=57:=by simp at hc;omega
  obtain ⟨p1,p2⟩:=Gw (c :: r) h 0 (by omega)
  have n0:¬c.toNat=43:=by omega
  have n2:¬c.toNat=45:=by omega
  rw [Yx]
  generalize hv:(c :: r).foldl xu 0=v at p1 p2 |-
  refine ⟨fun hlt=>?_,fun hge=>?_⟩
  ·have hp:=p1 (by omega)
   simp [Lib.parseIntB,Lib.parseUintB,n0,n2,hp]
   omega
  ·by_cases h2:v<=18446744073709551615
   ·have hp:=p1 h2
    simp [Lib.parseIntB,Lib.parseUintB,n0,n2,hp]
    omega
   ·have hp:=p2 (by omega)
    simp [Lib.parseIntB,Lib.parseUintB,n0,n2,hp]
theorem UG (p:UInt8->Bool) (l:List UInt8):l.take (iQ p l)=l.takeWhile p:=
 (List.prefix_iff_eq_take.1 (List.takeWhile_prefix p)).symm
theorem K8 (p:UInt8->Bool) (l:List UInt8):∀c∈l.take (iQ p l),p c=true:=by
 intro c hc
 rw [UG] at hc
 have:=List.all_takeWhile (p:=p) (l:=l)
 exact (List.all_eq_true.1 this) c hc
theorem drop_at {s:ByteArray} {k:Nat} (hk:k < s.size):s.data.toList.drop k=s[k] :: s.data.toList.drop (k+1):=List.drop_eq_getElem_cons (by simpa using hk)
theorem ext_list (s:ByteArray) (a b:Nat):(s.extract a b).data.toList=(s.data.toList.drop a).take (b - a):=by
 simp [ByteArray.data_extract,List.take_drop]
theorem D8 (s:ByteArray) (a:Nat):(s.extract a s.size).data.toList=s.data.toList.drop a:=by
 rw [ext_list,List.take_of_length_le (by simp)]
theorem Yy (c d:UInt8):((c.toNat:Int) != (d.toNat:Int))=(c != d):=by
 rw [Bool.eq_iff_iff]
 simp [bne_iff_ne,<-UInt8.toNat_inj]
 omega
theorem UH (l:List UInt8):Lib.hasPrefix l [47,47]=Aw l:=by
 match l with
 |[]=>rfl
 |[a]=>simp [Lib.hasPrefix,Aw,List.isPrefixOf]
 |a :: b :: r=>simp [Lib.hasPrefix,Aw,List.isPrefixOf,Bool.beq_comm (a:=(47:UInt8))]
theorem vE {s:ByteArray} {k:Nat} (hk:k < s.size):fF true (s.data.toList.drop k)=1+fF (s[k] != 10) (s.data.toList.drop (k+1)):=by rw [drop_at hk];rfl
theorem BU {s:ByteArray} {k:Nat} (hk:k < s.size):fF false (s.data.toList.drop k)=if Aw (s.data.toList.drop k) then 1+fF true (s.data.toList.drop (k+1)) else if Sb s[k] then 1+fF false (s.data.toList.drop (k+1)) else 0:=by rw [drop_at hk];rfl
theorem I9 (b:Bool) (s:ByteArray):fF b (s.data.toList.drop s.size)=0:=by
 rw [List.drop_eq_nil_of_le (by simp)];cases b <;> rfl
theorem prefix_at (s:ByteArray) (k:Nat) (w:World):
  Calls Tryz.prog 29 #[.string (s.extract k s.size),.string ⟨#[47,47]⟩] w fun e w'=>e= .returned (.bool (Aw (s.data.toList.drop k)))/\w=w':=
 (Tryz.strings_HasPrefix _ _ w).mono fun e w' ⟨he,hw⟩=>⟨by rw [he,D8];exact uR (UH _),hw.symm⟩
theorem QE (s:ByteArray) (w:World) (hs:s.size<=maxLen):Calls Tryz.prog 16 #[.string s] w fun e w'=>e= .returned (.int .i64 (fF false s.data.toList))/\w=w':=by
 unfold maxLen at hs
 go_enter Tryz.func16,Tryz.ntmps16
 go_wp2
 go_loop [3,7] (fun m i=>∃(b:Bool) (k:Nat),k<=s.size/\m= .bool b/\i= .int .i64 k/\fF b (s.data.toList.drop k)+k=fF false s.data.toList) (fun _ i=>s.size - (intOf i).toNat)
 case atStart=>exact ⟨false,0,Nat.zero_le _,rfl,rfl,by simp⟩
 case round=>
  obtain ⟨b,k,hk,rfl,rfl,hr⟩:=hrel
  by_cases hlt:k < s.size
  ·cases b
   ·have hp:=BU hlt
    cases h1:Aw (s.data.toList.drop k)
    ·cases h2:Sb s[k]
     ·rw [h1,h2] at hp
      have HP:=af hp
      have HR:=af hr
      have H1:=af h1
      have H2:=af h2
      clear hp hr h1 h2
      go_wp2_with (first
       |(go_at_call 29;refine (prefix_at _ _ _).mono ?_;rw [H1.out];rintro e w' ⟨rfl,rfl⟩)
       |(go_at_call 30;refine (Hy _ _).mono ?_;rw [H2.out];rintro e w' ⟨rfl,rfl⟩))
      go_ret
      exact ⟨rz (by rw [<-HR.out,HP.out];simp),rfl⟩
     ·rw [h1,h2] at hp
      have HP:=af hp
      have HR:=af hr
      have H1:=af h1
      have H2:=af h2
      clear hp hr h1 h2
      go_wp2_with (first
       |(go_at_call 29;refine (prefix_at _ _ _).mono ?_;rw [H1.out];rintro e w' ⟨rfl,rfl⟩)
       |(go_at_call 30;refine (Hy _ _).mono ?_;rw [H2.out];rintro e w' ⟨rfl,rfl⟩))
      go_round
      case rel=>exact ⟨false,k+1,by omega,rfl,by go_num,by have:=HP.out;simp at this;rw [<-HR.out];omega⟩
      case measure=>simp [intOf];omega
    ·rw [h1] at hp
     have HP:=af hp
     have HR:=af hr
     have H1:=af h1
     clear hp hr h1
     go_wp2_with (first
      |(go_at_call 29;refine (prefix_at _ _ _).mono ?_;rw [H1.out];rintro e w' ⟨rfl,rfl⟩))
     go_round
     case rel=>exact ⟨true,k+1,by omega,rfl,by go_num,by have:=HP.out;simp at this;rw [<-HR.out];omega⟩
     case measure=>simp [intOf];omega
   ·have hp:=vE hlt
    have HP:=af hp
    have HR:=af hr
    clear hp hr
    go_wp2
    go_round
    case rel=>exact ⟨s[k] != 10,k+1,by omega,by rw [<-Yy];rfl,by go_num,by have:=HP.out;rw [<-HR.out];omega⟩
    case measure=>simp [intOf];omega
  ·obtain rfl:k=s.size:=by omega
   rw [I9] at hr
   have HR:=af hr
   clear hr
   go_wp2
   go_ret
   exact ⟨rz (by rw [<-HR.out];omega),rfl⟩
theorem Ja {t:ByteArray} (h:doubles.contains t.toList=false):(t.toList == [58,61])=false/\(t.toList == [61,61])=false/\(t.toList == [33,61])=false/\(t.toList == [60,61])=false/\(t.toList == [62,61])=false/\(t.toList == [38,38])=false/\(t.toList == [124,124])=false:=by
 unfold doubles at h
 simp only [List.contains_cons,Bool.or_eq_false_iff,List.contains_nil,and_true] at h
 simpa using h
theorem QF {t:ByteArray} (h:doubles.contains t.toList=true):t.toList=[58,61]\/t.toList=[61,61]\/t.toList=[33,61]\/t.toList=[60,61]\/t.toList=[62,61]\/t.toList=[38,38]\/t.toList=[124,124]:=by
 unfold doubles at h
 simp only [List.contains_cons,Bool.or_eq_true,List.contains_nil,Bool.false_eq_true,or_false] at h
 simpa using h
theorem UI {c:UInt8} (h:qb.contains c=false):((c.toNat:Int) == 40)=false/\((c.toNat:Int) == 41)=false/\((c.toNat:Int) == 91)=false/\((c.toNat:Int) == 93)=false/\((c.toNat:Int) == 123)=false/\((c.toNat:Int) == 125)=false/\((c.toNat:Int) == 44)=false/\((c.toNat:Int) == 59)=false/\((c.toNat:Int) == 46)=false/\((c.toNat:Int) == 58)=false/\((c.toNat:Int) == 61)=false/\((c.toNat:Int) == 60)=false/\((c.toNat:Int) == 62)=false/\((c.toNat:Int) == 43)=false/\((c.toNat:Int) == 45)=false/\((c.toNat:Int) == 42)=false/\((c.toNat:Int) == 47)=false/\((c.toNat:Int) == 37)=false/\((c.toNat:Int) == 33)=false/\((c.toNat:Int) == 38)=false:=by
 unfold qb at h
 simp only [List.contains_cons,Bool.or_eq_false_iff,List.contains_nil,and_true,beq_eq_false_iff_ne,ne_eq,<-UInt8.toNat_inj] at h
 simp
 simp at h
 omega
theorem QG {c:UInt8} (h:qb.contains c=true):(c.toNat:Int)=40\/(c.toNat:Int)=41\/(c.toNat:Int)=91\/(c.toNat:Int)=93\/(c.toNat:Int)=123\/(c.toNat:Int)=125\/(c.toNat:Int)=44\/(c.toNat:Int)=59\/(c.toNat:Int)=46\/(c.toNat:Int)=58\/(c.toNat:Int)=61\/(c.toNat:Int)=60\/(c.toNat:Int)=62\/(c.toNat:Int)=43\/(c.toNat:Int)=45\/(c.toNat:Int)=42\/(c.toNat:Int)=47\/(c.toNat:Int)=37\/(c.toNat:Int)=33\/(c.toNat:Int)=38:=by
 unfold qb at h
 simp only [List.contains_cons,Bool.or_eq_true,List.contains_nil,Bool.false_eq_true,or_false,beq_iff_eq,<-UInt8.toNat_inj] at h
 simp at h
 omega
theorem BV (s:ByteArray):(s.extract 0 2).toList=s.data.toList.take 2:=by
 rw [ByteArray.toList_eq,ext_list];simp
theorem AA {s:ByteArray} (h:0 < s.size) (p:UInt8->Bool):sU p s.data.toList=p s[0]:=by
 have:=drop_at h
 rw [List.drop_zero] at this
 rw [this];rfl
theorem ZI {s:ByteArray} (h:s.size<=1):doubles.contains (s.data.toList.take 2)=false:=by
 have:s.data.toList.length<=1:=by simpa using h
 match s.data.toList,this with
 |[],_=>rfl
 |[a],_=>simp [doubles]
theorem UJ (s:ByteArray) (w:World) (h0:0 < s.size) (hs:s.size<=maxLen) (h:doubles.contains (s.data.toList.take 2)=false) (hl:qb.contains s[0]=true):
  Calls Tryz.prog 60 #[.string s] w fun e w'=>e= .returned (.int .i64 1)/\w=w':=by
 unfold maxLen at hs
 rw [<-BV] at h
 obtain ⟨d0,d1,d2,d3,d4,d5,d6⟩:=Ja h
 clear h
 rcases QG hl with h|h|h|h|h|h|h|h|h|h|h|h|h|h|h|h|h|h|h|h
 all_goals
  clear hl
  by_cases hz:1 < s.size
  all_goals
   go_enter Tryz.func60,Tryz.ntmps60
   go_wp2
   go_ret
   exact ⟨rfl,rfl⟩
theorem Sd (s:ByteArray) (w:World) (h0:0 < s.size) (hs:s.size<=maxLen) (h:doubles.contains (s.data.toList.take 2)=false) (hl:qb.contains s[0]=false):
  Calls Tryz.prog 60 #[.string s] w fun e w'=>e= .returned (.int .i64 0)/\w=w':=by
 unfold maxLen at hs
 rw [<-BV] at h
 obtain ⟨d0,d1,d2,d3,d4,d5,d6⟩:=Ja h
 clear h
 obtain ⟨e0,e1,e2,e3,e4,e5,e6,e7,e8,e9,e10,e11,e12,e13,e14,e15,e16,e17,e18,e19⟩:=UI hl
 clear hl
 by_cases hz:1 < s.size
 all_goals
  go_enter Tryz.func60,Tryz.ntmps60
  go_wp2
  go_ret
  exact ⟨rfl,rfl⟩
theorem size_two (s:ByteArray) (w:World) (hs:s.size<=maxLen) (h:doubles.contains (s.data.toList.take 2)=true):
  Calls Tryz.prog 60 #[.string s] w fun e w'=>e= .returned (.int .i64 2)/\w=w':=by
 have hz:1 < s.size:=by
  rcases Nat.lt_or_ge 1 s.size with h1|h1
  ·exact h1
  ·rw [ZI h1] at h;cases h
 unfold maxLen at hs
 rw [<-BV] at h
 rcases QF h with hd|hd|hd|hd|hd|hd|hd
 all_goals
  clear h
  go_enter Tryz.func60,Tryz.ntmps60
  go_wp2
  go_ret
  exact ⟨rfl,rfl⟩
theorem K9 (s:ByteArray) (w:World) (h0:0 < s.size) (hs:s.size<=maxLen):
  Calls Tryz.prog 60 #[.string s] w fun e w'=>e= .returned (.int .i64 (wF s.data.toList))/\w=w':=by
 unfold wF
 rw [AA h0]
 cases h:doubles.contains (s.data.toList.take 2)
 ·cases hl:qb.contains s[0]
  ·exact Sd s w h0 hs h hl
  ·exact UJ s w h0 hs h hl
 ·exact size_two s w hs h
theorem zJ (s:ByteArray) (n:Nat):s.extract 0 n=bs (s.data.toList.take n):=by
 refine ByteArray.ext ?_
 rw [<-Array.toList_inj,ext_list];simp [bs]
theorem Jb (l:List UInt8):(bs l).data.toList=l:=by simp [bs]
theorem QH (l:List UInt8):(bs l).size=l.length:=by simp [bs,ByteArray.size]
def Gx (t:Tk) (at_:Int):Value:=.agg #[.int .i64 t.k,.string (bs t.t),.int .i64 t.n,.int .i64 at_]
def wM:Value:=.agg #[.int .i64 0,.string ⟨#[]⟩,.int .i64 0,.int .i64 0]
def dL:Option (Tk × Nat)->Value
 |none=>.tuple #[wM,.int .i64 0]
 |some (t,n)=>.tuple #[Gx t 0,.int .i64 n]
theorem sN (s:ByteArray) (w:World) (hs:s.size<=8192):Calls Tryz.prog 54 #[.string s] w fun e w'=>e= .returned (.string s)/\Below w.heap.size w w':=by
 go_enter Tryz.func54,Tryz.ntmps54
 go_wp2_with (go_at_call 85;refine (Tryz.stringslite_Clone _ _ (by omega)).mono ?_;rintro e w1 ⟨rfl,hb⟩)
 go_ret
 exact ⟨rfl,hb⟩
theorem HZ (s:ByteArray) (w:World) (hs:s.size<=8192) (n:Nat) (hN:n=iQ xq s.data.toList) (t:Tk) (m:Nat)
  (hk:(KT (s.extract 0 n)=true/\t=⟨2,s.data.toList.take n,0⟩/\m=n)\/(KT (s.extract 0 n)=false/\¬16 < n/\t=⟨1,s.data.toList.take n,0⟩/\m=n)):
  Calls Tryz.prog 32 #[.string s] w fun e w'=>e= .returned (dL (some (t,m)))/\Below w.heap.size w w':=by
 have hn:=pW xq s.data.toList
 simp at hn
 have hz:(s.extract 0 n).size=n:=by simp;omega
 have hL:=af hN
 have hZ:=af hz
 have hn':n<=s.size:=by omega
 clear hN hz hn
 have hz':(s.extract 0 n).size<=8192:=by rw [hZ.out];omega
 have hX:=af (zJ s n)
 rcases hk with ⟨hW,rfl,rfl⟩|⟨hW,hlt,rfl,rfl⟩
 all_goals
  have hW:=af hW
  go_enter Tryz.func32,Tryz.ntmps32
  go_wp2_with (first
  |(go_at_call 55;refine (K6 _ _ (by unfold maxLen;omega)).mono ?_;rw [<-hL.out];rintro e w' ⟨rfl,rfl⟩)
  |(go_at_call 54;refine (sN _ _ hz').mono ?_;rintro e w1 ⟨rfl,hb⟩;obtain ⟨hx1,hf1,_,hB1⟩:=kQ hb;clear hb;have c0:=hx1 0 _ rfl;have c1:=hx1 1 _ rfl;have c2:=hx1 2 _ rfl;have c3:=hx1 3 _ rfl;clear hx1)
  |(go_at_call 57;refine (K4 _ _).mono ?_;rw [hW.out];rintro e w' ⟨rfl,rfl⟩))
  exact bodyPost_ret (v:=dL (some (_,_))) (by simp [results,Tryz.results32,dL,Gx,go_sem,hX.out,c0,c1,c2,c3]) rfl ⟨rfl,bY hB1 (Nat.le_refl _) _ _ _ _⟩
theorem Nz (s:ByteArray) (w:World) (hs:s.size<=8192) (n:Nat) (hN:n=iQ xq s.data.toList) (hW:KT (s.extract 0 n)=false) (hlt:16 < n):
  Calls Tryz.prog 32 #[.string s] w fun e w'=>e= .returned (dL none)/\Below w.heap.size w w':=by
 have hn:=pW xq s.data.toList
 simp at hn
 have hz:(s.extract 0 n).size=n:=by simp;omega
 have hL:=af hN
 have hZ:=af hz
 have hn':n<=s.size:=by omega
 clear hN hz hn
 have hz':(s.extract 0 n).size<=8192:=by rw [hZ.out];omega
 have hW:=af hW
 go_enter Tryz.func32,Tryz.ntmps32
 go_wp2_with (first
  |(go_at_call 55;refine (K6 _ _ (by unfold maxLen;omega)).mono ?_;rw [<-hL.out];rintro e w' ⟨rfl,rfl⟩)
  |(go_at_call 54;refine (sN _ _ hz').mono ?_;rintro e w1 ⟨rfl,hb⟩;obtain ⟨hx1,hf1,_,hB1⟩:=kQ hb;clear hb;have c0:=hx1 0 _ rfl;have c1:=hx1 1 _ rfl;have c2:=hx1 2 _ rfl;have c3:=hx1 3 _ rfl;clear hx1)
  |(go_at_call 57;refine (K4 _ _).mono ?_;rw [hW.out];rintro e w' ⟨rfl,rfl⟩))
 exact bodyPost_ret (v:=dL none) (by simp [results,Tryz.results32,dL,wM,go_sem,c0,c1,c2,c3]) rfl ⟨rfl,bY hB1 (Nat.le_refl _) _ _ _ _⟩
theorem Sg (s:ByteArray) (w:World) (hs:s.size<=8192):
  Calls Tryz.prog 32 #[.string s] w fun e w'=>e= .returned (dL (uD s.data.toList))/\Below w.heap.size w w':=by
 unfold uD
 by_cases hW:words.contains (s.data.toList.take (iQ xq s.data.toList))=true
 ·rw [if_pos hW]
  exact HZ s w hs _ rfl _ _ (.inl ⟨by rw [zJ,I8];exact hW,rfl,rfl⟩)
 ·rw [if_neg hW]
  by_cases hlt:16 < iQ xq s.data.toList
  ·rw [if_pos hlt]
   exact Nz s w hs _ rfl (by rw [zJ,I8];simpa using hW) hlt
  ·rw [if_neg hlt]
   exact HZ s w hs _ rfl _ _ (.inr ⟨by rw [zJ,I8];simpa using hW,hlt,rfl,rfl⟩)
def qF (w:World):Prop:=∃te pe,w.cell? ⟨1,0,none⟩=some (.iface te pe)
theorem qF.below {w w':World} (h:qF w) (hb:Below w.heap.size w w'):qF w':=by
 obtain ⟨te,pe,hc⟩:=h
 exact ⟨te,pe,(hb.cell (p:=⟨1,0,none⟩) (World.block_lt_of_cell? w _ hc)).trans hc⟩
theorem qF.alloc {w:World} (h:qF w) (o:Obj):qF (w.alloc o):=h.below ((Below.refl _ _).alloc (Nat.le_refl _) _)
theorem UK (s:ByteArray) (w:World) (hs:s.size<=8192) (hne:s.data.toList≠[]) (hd:∀c∈s.data.toList,nA c=true) (hv:rD s.data.toList < 9223372036854775808):
  Calls Tryz.prog 58 #[.string s,.int .i64 10,.int .i64 64] w fun e w'=>e= .returned (.tuple #[.int .i64 (rD s.data.toList),.nilIface])/\Below w.heap.size w w':=
 (Tryz.strconv_ParseInt_10_at64_ok s (by omega) _ ((Az _ hne hd).1 hv) w).mono fun e w' ⟨he,hw⟩=>⟨he,by
  rcases hw with rfl|⟨t,rfl⟩
  ·exact Below.refl _ _
  ·exact Lib.bytesWorld_below _ _ _⟩
theorem La (s:ByteArray) (w:World) (hs:s.size<=8192) (hne:s.data.toList≠[]) (hd:∀c∈s.data.toList,nA c=true) (hv:9223372036854775808<=rD s.data.toList) (ht:qF w):
  Calls Tryz.prog 58 #[.string s,.int .i64 10,.int .i64 64] w fun e w'=>∃n a,e= .returned (.tuple #[.int .i64 n,.iface 100 (.pointer (some a))])/\Below w.heap.size w w':=by
 obtain ⟨te,pe,hc⟩:=ht
 exact (Tryz.strconv_ParseInt_10_at64_range s (by omega) ((Az _ hne hd).2 hv) _ w hc (.inr ⟨te,pe,rfl⟩)).mono fun e w' ⟨N,he,_,_,hb⟩=>⟨_,_,he,hb⟩
theorem Yz {s:ByteArray} (h0:0 < s.size) (hd:nA s[0]=true):0 < iQ nA s.data.toList:=by
 have:=uS (p:=nA) h0 hd
 rw [List.drop_zero] at this
 omega
theorem fV {s:ByteArray} {n:Nat} (h:n < s.size) (p:UInt8->Bool):sU p (s.data.toList.drop n)=p s[n]:=by rw [drop_at h];rfl
theorem Si {s:ByteArray} {n:Nat} (h:s.size<=n) (p:UInt8->Bool):sU p (s.data.toList.drop n)=false:=by
 rw [List.drop_eq_nil_of_le (by simpa using h)];rfl
theorem Gy (s:ByteArray) (w:World) (hs:s.size<=8192) (n:Nat) (hN:n=iQ nA s.data.toList) (h1:1 < n) (h0:0 < s.size) (h48:(s[0].toNat:Int)=48):
  Calls Tryz.prog 34 #[.string s] w fun e w'=>e= .returned (dL none)/\Below w.heap.size w w':=by
 have hn:=pW nA s.data.toList
 simp at hn
 have hL:=af hN
 clear hN hn
 go_enter Tryz.func34,Tryz.ntmps34
 go_wp2_with (go_at_call 55;refine (yu _ _ (by unfold maxLen;omega)).mono ?_;rw [<-hL.out];rintro e w' ⟨rfl,rfl⟩)
 exact bodyPost_ret (v:=dL none) (by simp [results,Tryz.results34,dL,wM,go_sem]) rfl ⟨rfl,iW _ _ _⟩
theorem Gz (s:ByteArray) (w:World) (hs:s.size<=8192) (n:Nat) (hN:n=iQ nA s.data.toList) (hA:¬1 < n\/(1 < n/\0 < s.size/\((s[0]!.toNat:Int) == 48)=false)) (h2:n < s.size) (hl:yZ s[n]=true):
  Calls Tryz.prog 34 #[.string s] w fun e w'=>e= .returned (dL none)/\Below w.heap.size w w':=by
 have hn:=pW nA s.data.toList
 simp at hn
 have hL:=af hN
 have hl:=af hl
 clear hN hn
 rcases hA with h1|⟨h1,h0,e48⟩
 all_goals
  (try rw [getElem!_pos s 0 h0] at e48)
  go_enter Tryz.func34,Tryz.ntmps34
  go_wp2_with (first
   |(go_at_call 55;refine (yu _ _ (by unfold maxLen;omega)).mono ?_;rw [<-hL.out];rintro e w' ⟨rfl,rfl⟩)
   |(go_at_call 31;refine (mO _ _).mono ?_;rw [hl.out];rintro e w' ⟨rfl,rfl⟩)
   |(go_at_call 54;refine (sN _ _ hz').mono ?_;rintro e w1 ⟨rfl,hb⟩;obtain ⟨hx1,hf1,hz1,hB1⟩:=kQ hb;clear hb;have c0:=hx1 0 _ rfl;have c1:=hx1 1 _ rfl;have c2:=hx1 2 _ rfl;have c3:=hx1 3 _ rfl;clear hx1)
   |(go_at_call 58;fail))
  exact bodyPost_ret (v:=dL none) (by simp [results,Tryz.results34,dL,wM,go_sem]) rfl ⟨rfl,iW _ _ _⟩
theorem NA (s:ByteArray) (w:World) (ht:qF w) (hs:s.size<=8192) (n:Nat) (hN:n=iQ nA s.data.toList) (hp:0 < n) (hA:¬1 < n\/(1 < n/\0 < s.size/\((s[0]!.toNat:Int) == 48)=false))
  (hB:¬n < s.size\/(n < s.size/\yZ s[n]! =false)) (hv:rD (s.data.toList.take n) < 9223372036854775808):
  Calls Tryz.prog 34 #[.string s] w fun e w'=>e= .returned (dL (some (⟨3,s.data.toList.take n,rD (s.data.toList.take n)⟩,n)))/\Below w.heap.size w w':=by
 have hn:=pW nA s.data.toList
 simp at hn
 have hX:=zJ s n
 have hz:(s.extract 0 n).size=n:=by simp;omega
 have hl0:(s.extract 0 n).data.toList=s.data.toList.take n:=by rw [hX,Jb]
 have hall:∀c∈(s.extract 0 n).data.toList,nA c=true:=by rw [hl0,hN];exact K8 nA _
 have hne:(s.extract 0 n).data.toList≠[]:=by
  intro e
  have h1:(s.extract 0 n).data.toList.length=n:=by simpa using hz
  rw [e] at h1
  simp at h1
  omega
 rw [<-hl0] at hv
 have hL:=af hN
 have hn':n<=s.size:=by omega
 have HX:=af hX
 have hz':(s.extract 0 n).size<=8192:=by rw [hz];omega
 have HA:=af hall
 clear hN hn hz hX hl0 hall
 rcases hA with h1|⟨h1,h0,e48⟩ <;> rcases hB with h2|⟨h2,hl⟩
 all_goals
  (try rw [getElem!_pos s 0 h0] at e48)
  (try rw [getElem!_pos s n h2] at hl)
  (try have hl:=af hl)
  go_enter Tryz.func34,Tryz.ntmps34
  go_wp2_with (first
   |(go_at_call 55;refine (yu _ _ (by unfold maxLen;omega)).mono ?_;rw [<-hL.out];rintro e w' ⟨rfl,rfl⟩)
   |(go_at_call 31;refine (mO _ _).mono ?_;rw [hl.out];rintro e w' ⟨rfl,rfl⟩)
   |(go_at_call 54;refine (sN _ _ hz').mono ?_;rintro e w1 ⟨rfl,hb⟩;obtain ⟨hx1,hf1,hz1,hB1⟩:=kQ hb;clear hb;have c0:=hx1 0 _ rfl;have c1:=hx1 1 _ rfl;have c2:=hx1 2 _ rfl;have c3:=hx1 3 _ rfl;clear hx1)
   |(go_at_call 58;refine (UK _ _ hz' hne HA.out hv).mono ?_;rintro e w2 ⟨rfl,hb⟩;have hB2:=zI hB1 hb;have d0:=(hb.cell (p:=⟨w.heap.size,0,none⟩) (by show w.heap.size < _;omega)).trans c0;have d1:=(hb.cell (p:=⟨w.heap.size,1,none⟩) (by show w.heap.size < _;omega)).trans c1;have d2:=(hb.cell (p:=⟨w.heap.size,2,none⟩) (by show w.heap.size < _;omega)).trans c2;have d3:=(hb.cell (p:=⟨w.heap.size,3,none⟩) (by show w.heap.size < _;omega)).trans c3;have hf2:∀i,w2.frozen? ⟨w.heap.size,i,none⟩=false:=(fun i=>(hb.frozen (p:=⟨w.heap.size,i,none⟩) (by show w.heap.size < _;omega)).trans (hf1 i));clear hb))
  exact bodyPost_ret (v:=dL (some (_,_))) (by simp [results,Tryz.results34,dL,Gx,go_sem,HX.out,d0,d1,d2,d3]) rfl ⟨rfl,bY hB2 (Nat.le_refl _) _ _ _ _⟩
theorem Jc (s:ByteArray) (w:World) (ht:qF w) (hs:s.size<=8192) (n:Nat) (hN:n=iQ nA s.data.toList) (hp:0 < n) (hA:¬1 < n\/(1 < n/\0 < s.size/\((s[0]!.toNat:Int) == 48)=false))
  (hB:¬n < s.size\/(n < s.size/\yZ s[n]! =false)) (hv:9223372036854775808<=rD (s.data.toList.take n)):
  Calls Tryz.prog 34 #[.string s] w fun e w'=>e= .returned (dL none)/\Below w.heap.size w w':=by
 have hn:=pW nA s.data.toList
 simp at hn
 have hX:=zJ s n
 have hz:(s.extract 0 n).size=n:=by simp;omega
 have hl0:(s.extract 0 n).data.toList=s.data.toList.take n:=by rw [hX,Jb]
 have hall:∀c∈(s.extract 0 n).data.toList,nA c=true:=by rw [hl0,hN];exact K8 nA _
 have hne:(s.extract 0 n).data.toList≠[]:=by
  intro e
  have h1:(s.extract 0 n).data.toList.length=n:=by simpa using hz
  rw [e] at h1
  simp at h1
  omega
 rw [<-hl0] at hv
 have hL:=af hN
 have hn':n<=s.size:=by omega
 have hz':(s.extract 0 n).size<=8192:=by rw [hz];omega
 have HA:=af hall
 clear hN hn hz hX hl0 hall
 rcases hA with h1|⟨h1,h0,e48⟩ <;> rcases hB with h2|⟨h2,hl⟩
 all_goals
  (try rw [getElem!_pos s 0 h0] at e48)
  (try rw [getElem!_pos s n h2] at hl)
  (try have hl:=af hl)
  go_enter Tryz.func34,Tryz.ntmps34
  go_wp2_with (first
   |(go_at_call 55;refine (yu _ _ (by unfold maxLen;omega)).mono ?_;rw [<-hL.out];rintro e w' ⟨rfl,rfl⟩)
   |(go_at_call 31;refine (mO _ _).mono ?_;rw [hl.out];rintro e w' ⟨rfl,rfl⟩)
   |(go_at_call 54;refine (sN _ _ hz').mono ?_;rintro e w1 ⟨rfl,hb⟩;obtain ⟨hx1,hf1,hz1,hB1⟩:=kQ hb;clear hb;have c0:=hx1 0 _ rfl;have c1:=hx1 1 _ rfl;have c2:=hx1 2 _ rfl;have c3:=hx1 3 _ rfl;clear hx1)
   |(go_at_call 58;refine (La _ _ hz' hne HA.out hv (ht.below hB1)).mono ?_;rintro e w2 ⟨nn,aa,rfl,hb⟩;have hB2:=zI hB1 hb;have d0:=(hb.cell (p:=⟨w.heap.size,0,none⟩) (by show w.heap.size < _;omega)).trans c0;have d1:=(hb.cell (p:=⟨w.heap.size,1,none⟩) (by show w.heap.size < _;omega)).trans c1;have d2:=(hb.cell (p:=⟨w.heap.size,2,none⟩) (by show w.heap.size < _;omega)).trans c2;have d3:=(hb.cell (p:=⟨w.heap.size,3,none⟩) (by show w.heap.size < _;omega)).trans c3;have hf2:∀i,w2.frozen? ⟨w.heap.size,i,none⟩=false:=(fun i=>(hb.frozen (p:=⟨w.heap.size,i,none⟩) (by show w.heap.size < _;omega)).trans (hf1 i));clear hb))
  exact bodyPost_ret (v:=dL none) (by simp [results,Tryz.results34,dL,wM,go_sem,d0,d1,d2,d3]) rfl ⟨rfl,bY hB2 (Nat.le_refl _) _ _ _ _⟩
theorem NB (s:ByteArray) (w:World) (ht:qF w) (hs:s.size<=8192) (h0:0 < s.size) (hd:nA s[0]=true):
  Calls Tryz.prog 34 #[.string s] w fun e w'=>e= .returned (dL (mP s.data.toList))/\Below w.heap.size w w':=by
 have hp:=Yz h0 hd
 have hh:=AA h0 (· == 48)
 have e48:(s[0] == 48)=false->((s[0]!.toNat:Int) == 48)=false:=by
  intro h
  rw [getElem!_pos s 0 h0]
  simp [<-UInt8.toNat_inj] at h |-
  omega
 unfold mP
 rw [hh]
 by_cases hA:(decide (1 < iQ nA s.data.toList) && s[0] == 48)=true
 ·rw [if_pos hA]
  simp only [Bool.and_eq_true,decide_eq_true_eq,beq_iff_eq] at hA
  exact Gy s w hs _ rfl hA.1 h0 (by rw [hA.2];rfl)
 ·rw [if_neg hA]
  have hA':¬1 < iQ nA s.data.toList\/(1 < iQ nA s.data.toList/\0 < s.size/\((s[0]!.toNat:Int) == 48)=false):=by
   by_cases h1:1 < iQ nA s.data.toList
   ·refine .inr ⟨h1,h0,e48 ?_⟩
    simpa [h1] using hA
   ·exact .inl h1
  by_cases hB:sU yZ (s.data.toList.drop (iQ nA s.data.toList))=true
  ·rw [if_pos hB]
   rcases Nat.lt_or_ge (iQ nA s.data.toList) s.size with h2|h2
   ·rw [fV h2] at hB
    exact Gz s w hs _ rfl hA' h2 hB
   ·rw [Si h2] at hB;cases hB
  ·rw [if_neg hB]
   have hB':¬iQ nA s.data.toList < s.size\/(iQ nA s.data.toList < s.size/\yZ s[iQ nA s.data.toList]! =false):=by
    rcases Nat.lt_or_ge (iQ nA s.data.toList) s.size with h2|h2
    ·refine .inr ⟨h2,?_⟩
     rw [fV h2] at hB
     rw [getElem!_pos s _ h2]
     simpa using hB
    ·exact .inl (by omega)
   by_cases hv:rD (s.data.toList.take (iQ nA s.data.toList)) < 9223372036854775808
   ·rw [if_pos hv]
    exact NA s w ht hs _ rfl hp hA' hB' hv
   ·rw [if_neg hv]
    exact Jc s w ht hs _ rfl hp hA' hB' (by omega)
theorem CV (c:UInt8) (w:World):Calls Tryz.prog 59 #[.int .u8 c.toNat] w fun e w'=>e= .returned (.int .u8 (pY c).toNat)/\w=w':=by
 by_cases h1:c=110
 ·subst h1
  go_enter Tryz.func59,Tryz.ntmps59
  go_wp2
  go_ret
  exact ⟨rfl,rfl⟩
 by_cases h2:c=34
 ·subst h2
  go_enter Tryz.func59,Tryz.ntmps59
  go_wp2
  go_ret
  exact ⟨rfl,rfl⟩
 by_cases h3:c=92
 ·subst h3
  go_enter Tryz.func59,Tryz.ntmps59
  go_wp2
  go_ret
  exact ⟨rfl,rfl⟩
 have hm:pY c=0:=by unfold pY;rw [if_neg h1,if_neg h2,if_neg h3]
 have e1:¬(c.toNat:Int)=110:=by intro e;exact h1 (UInt8.toNat_inj.1 (by simpa using (by omega:c.toNat=110)))
 have e2:¬(c.toNat:Int)=34:=by intro e;exact h2 (UInt8.toNat_inj.1 (by simpa using (by omega:c.toNat=34)))
 have e3:¬(c.toNat:Int)=92:=by intro e;exact h3 (UInt8.toNat_inj.1 (by simpa using (by omega:c.toNat=92)))
 rw [hm]
 clear hm h1 h2 h3
 go_enter Tryz.func59,Tryz.ntmps59
 go_wp2
 go_ret
 exact ⟨rfl,rfl⟩
theorem UL (s:ByteArray) (w:World) (hs:s.size<=8192) (h0:0 < s.size):
  Calls Tryz.prog 36 #[.string s] w fun e w'=>e= .returned (dL (Ay s.data.toList))/\Below w.heap.size w w':=by
 obtain ⟨n,hN⟩:=uj (wF s.data.toList)
 have hle:n<=s.size:=by
  rw [hN];unfold wF
  split
  ·rename_i h
   rcases Nat.lt_or_ge 1 s.size with h1|h1
   ·omega
   ·rw [ZI h1] at h;cases h
  ·split <;> omega
 have hX:=zJ s n
 have hz:(s.extract 0 n).size=n:=by simp;omega
 have hz':(s.extract 0 n).size<=8192:=by omega
 unfold Ay
 rw [<-hN]
 have HN:=af hN
 have HX:=af hX
 clear hN hX hz
 by_cases hn:n=0
 ·rw [if_pos hn]
  have hn0:(n:Int)=0:=by omega
  clear hn
  go_enter Tryz.func36,Tryz.ntmps36
  go_wp2_with (go_at_call 60;refine (K9 _ _ h0 (by unfold maxLen;omega)).mono ?_;rw [<-HN.out];rintro e w' ⟨rfl,rfl⟩)
  exact bodyPost_ret (v:=dL none) (by simp [results,Tryz.results36,dL,wM,go_sem]) rfl ⟨rfl,iW _ _ _⟩
 ·rw [if_neg hn]
  have hn0:¬(n:Int)=0:=by omega
  go_enter Tryz.func36,Tryz.ntmps36
  go_wp2_with (first
   |(go_at_call 60;refine (K9 _ _ h0 (by unfold maxLen;omega)).mono ?_;rw [<-HN.out];rintro e w' ⟨rfl,rfl⟩)
   |(go_at_call 54;refine (sN _ _ hz').mono ?_;rintro e w1 ⟨rfl,hb⟩;obtain ⟨hx1,hf1,_,hB1⟩:=kQ hb;clear hb;have c0:=hx1 0 _ rfl;have c1:=hx1 1 _ rfl;have c2:=hx1 2 _ rfl;have c3:=hx1 3 _ rfl;clear hx1))
  exact bodyPost_ret (v:=dL (some (_,_))) (by simp [results,Tryz.results36,dL,Gx,go_sem,HX.out,c0,c1,c2,c3]) rfl ⟨rfl,bY hB1 (Nat.le_refl _) _ _ _ _⟩
def ze (c:UInt8):Value:=.int .u8 c.toNat
theorem En {w:World} {base:Nat} {v:Value} {l:List UInt8} (h:w.ownsRow base 5 1 v l.length (l.map ze)):(convert 79 9 v).run Tryz.prog w= .ok (.string (bs l)) w:=by
 rcases h.2 with ⟨rfl,hl⟩|⟨g,cap,cur,rfl,_⟩
 ·have:l=[]:=List.eq_nil_of_length_eq_zero hl
  subst this
  exact run_convert_bytes_nil (w:=w) 79 5 Tryz.underlying79 Tryz.underlying5 0 0 9 Tryz.underlying9
 ·exact run_convert_bytes_back (P:=Tryz.prog) w 79 9 5 ⟨g,0,none⟩ cap l Tryz.underlying79 Tryz.underlying5 Tryz.underlying9 (fun j hj=>by
   refine h.cells (g:=g) rfl j _ ?_
   simp [hj,ze])
def box:Obj:=.cells #[.int .i64 0,.string ⟨#[]⟩,.int .i64 0,.int .i64 0] 53
theorem H6:(Tryz.prog.info? 5).map (fun i=>(i.zero,i.size,i.bytes))=some (some (.int .u8 0),1,1):=by kernel_rfl
theorem Jd {c d:UInt8} (h:c=d):(c.toNat:Int)=(d.toNat:Int):=by rw [h]
theorem lX {c d:UInt8} (h:¬c=d):¬(c.toNat:Int)=(d.toNat:Int):=fun e=>h (UInt8.toNat_inj.1 (by omega))
theorem abu {t:ByteArray} {k:Nat} (hk:k < t.size) (acc:List UInt8):qL true acc k (t.data.toList.drop k)=if pY t[k]=0 then none else qL false (acc ++ [pY t[k]]) (k+1) (t.data.toList.drop (k+1)):=by rw [drop_at hk];rfl
theorem YA {t:ByteArray} {k:Nat} (hk:k < t.size) (acc:List UInt8):qL false acc k (t.data.toList.drop k)=if t[k]=92 then qL true acc (k+1) (t.data.toList.drop (k+1)) else if t[k]=34 then (if 100 < acc.length then none else some (acc,k+2)) else if t[k] < 32\/126 < t[k] then none else qL false (acc ++ [t[k]]) (k+1) (t.data.toList.drop (k+1)):=by rw [drop_at hk];rfl
theorem adb (b:Bool) (acc:List UInt8) (k:Nat) (t:ByteArray):qL b acc k (t.data.toList.drop t.size)=none:=by
 rw [List.drop_eq_nil_of_le (by simp)];cases b <;> rfl
theorem NC (s:ByteArray) (w:World) (hs:s.size<=8192) (h0:0 < s.size):
  Calls Tryz.prog 35 #[.string s] w fun e w'=>e= .returned (dL (qa s.data.toList))/\Below w.heap.size w w':=by
 obtain ⟨i0,hi0,hz0,hz1,hz2⟩:=info_parts H6
 obtain ⟨t,hX⟩:=aS (s.extract 1 s.size)
 have htl:t.data.toList=s.data.toList.drop 1:=by rw [<-hX,D8]
 have htz:t.size<=8192:=by rw [<-hX];simp;omega
 unfold qa
 rw [<-htl]
 clear htl
 go_enter Tryz.func35,Tryz.ntmps35
 go_wp2
 clear hX
 go_loopw [5,6,14] (fun v m i wr=>∃(b:Bool) (acc:List UInt8) (k:Nat),k<=t.size/\m= .bool b/\i= .int .i64 k/\acc.length<=k/\wr.ownsRow (w.heap.size+1) 5 1 v acc.length (acc.map ze)/\Below (w.alloc box).heap.size (w.alloc box) wr/\qL b acc k (t.data.toList.drop k)=qL false [] 0 t.data.toList) (fun _ _ i _=>t.size - (intOf i).toNat)
 case atStart=>exact ⟨false,[],0,Nat.zero_le _,rfl,rfl,Nat.le_refl _,World.ownsRow_nil _ _ _ 1,Below.refl _ _,by simp⟩
 case round=>
  obtain ⟨b,acc,k,hk,rfl,rfl,hak,hown,hB,hq⟩:=hrel
  obtain ⟨wo,rfl⟩:∃wo:World,wo=wr:=⟨_,rfl⟩
  have k0:(0:Int)<=(k:Int):=by omega
  obtain ⟨AO,cO,rfl⟩:=kM hown
  obtain ⟨hx1,hf1,hz1',hB1⟩:=kQ hB
  have c0:=hx1 0 _ rfl
  have c1:=hx1 1 _ rfl
  have c2:=hx1 2 _ rfl
  have c3:=hx1 3 _ rfl
  clear hx1
  have HO:=af hown
  have HB:=af hB
  clear hown hB
  by_cases hlt:k < t.size
  ·have k1:(k:Int) < (t.size:Int):=by omega
   have hb0:0<=(t[k].toNat:Int)/\(t[k].toNat:Int)<=255:=by have:=t[k].toNat_lt;omega
   obtain ⟨hb0,hb1⟩:=hb0
   cases b
   ·rw [YA hlt] at hq
    by_cases D9:t[k]=92
    ·rw [if_pos D9] at hq
     have e92:(t[k].toNat:Int)=92:=Jd D9
     have HQ:=af hq
     clear hq D9
     go_wp2
     go_roundw
     case rel=>exact ⟨true,acc,k+1,by omega,rfl,by go_num,by omega,HO.out,HB.out,HQ.out⟩
     case measure=>simp [intOf];omega
    rw [if_neg D9] at hq
    have e92:¬(t[k].toNat:Int)=92:=lX D9
    have f92:((t[k].toNat:Int) == 92)=false:=beq_eq_false_iff_ne.2 e92
    by_cases KU:t[k]=34
    ·rw [if_pos KU] at hq
     have e34:(t[k].toNat:Int)=34:=Jd KU
     clear KU D9
     by_cases hl:100 < acc.length
     ·rw [if_pos hl] at hq
      have HQ:=af hq
      clear hq
      go_wp2
      exact bodyPost_ret (v:=dL none) (by simp [results,Tryz.results35,dL,wM,go_sem,c0,c1,c2,c3]) rfl ⟨by rw [<-HQ.out];rfl,bY hB1 (Nat.le_refl _) _ _ _ _⟩
     ·rw [if_neg hl] at hq
      have HQ:=af hq
      clear hq
      have hcv:=En HO.out
      go_wp2
      exact bodyPost_ret (v:=dL (some (⟨4,acc,0⟩,k+2))) (by simp [results,Tryz.results35,dL,Gx,go_sem,c0,c1,c2,c3]) rfl ⟨by rw [<-HQ.out];rfl,bY hB1 (Nat.le_refl _) _ _ _ _⟩
    rw [if_neg KU] at hq
    have e34:¬(t[k].toNat:Int)=34:=lX KU
    have f34:((t[k].toNat:Int) == 34)=false:=beq_eq_false_iff_ne.2 e34
    by_cases hr:t[k] < 32\/126 < t[k]
    ·rw [if_pos hr] at hq
     have HQ:=af hq
     clear hq
     rcases hr with hr|hr
     ·have hr':(t[k].toNat:Int) < 32:=by have:=UInt8.lt_iff_toNat_lt.1 hr;simp at this;omega
      clear hr
      go_wp2
      exact bodyPost_ret (v:=dL none) (by simp [results,Tryz.results35,dL,wM,go_sem,c0,c1,c2,c3]) rfl ⟨by rw [<-HQ.out];rfl,bY hB1 (Nat.le_refl _) _ _ _ _⟩
     ·have hr':126 < (t[k].toNat:Int):=by have:=UInt8.lt_iff_toNat_lt.1 hr;simp at this;omega
      have amb:¬(t[k].toNat:Int) < 32:=by omega
      clear hr
      go_wp2
      exact bodyPost_ret (v:=dL none) (by simp [results,Tryz.results35,dL,wM,go_sem,c0,c1,c2,c3]) rfl ⟨by rw [<-HQ.out];rfl,bY hB1 (Nat.le_refl _) _ _ _ _⟩
    ·rw [if_neg hr] at hq
     have r1:¬(t[k].toNat:Int) < 32:=by intro h;exact hr (.inl (UInt8.lt_iff_toNat_lt.2 (by simp;omega)))
     have r2:¬126 < (t[k].toNat:Int):=by intro h;exact hr (.inr (UInt8.lt_iff_toNat_lt.2 (by simp;omega)))
     have HQ:=af hq
     clear hq hr KU D9
     go_wp2_with (at_builtin;refine fe _ rfl (.tmp 20) (.tmp 22) _ rfl (w.heap.size+1) 5 i0 _ 1 1 Tryz.underlying79 hi0 hz0 hz1 hz2 rfl (by omega) (.slice AO acc.length cO) acc.length _ rfl (HO.out.alloc _) (wo.heap.size+1) (some ⟨wo.heap.size,0,none⟩) 1 1 [ze t[k]] rfl ⟨rfl,fun _=>⟨_,rfl,by simp,World.news_of_block (cs:=#[ze t[k]]) (t:=5) (fr:=(0,0)) (heap_alloc_new wo _)⟩⟩ (by simp [Value.oneCell',ze]) (by simp only [maxLen];omega) (by omega) (by simp;omega) ?_;intro v' w2 hown2 hg2 xw)
     have Gu:=af hown2
     have hlv:=fun q (hq:(Value.slice AO acc.length cO).ownBlock=some q)=>(HO.out.lt q hq).1
     have hB2:Below (w.alloc box).heap.size (w.alloc box) w2:=(HB.out.alloc (by simp;omega) _).grown hg2 (by simp;omega) (by simpa using hlv)
     clear hown2 hg2 xw hlv
     go_roundw
     case rel=>exact ⟨false,acc ++ [t[k]],k+1,by omega,rfl,by go_num,by simp;omega,by simpa using Gu.out,hB2,HQ.out⟩
     case measure=>simp [intOf];omega
   ·rw [abu hlt] at hq
    by_cases hm:pY t[k]=0
    ·rw [if_pos hm] at hq
     have HM:=af hm
     have HQ:=af hq
     clear hq hm
     go_wp2_with (go_at_call 59;refine (CV _ _).mono ?_;rw [HM.out];rintro e w' ⟨rfl,rfl⟩)
     exact bodyPost_ret (v:=dL none) (by simp [results,Tryz.results35,dL,wM,go_sem,c0,c1,c2,c3]) rfl ⟨by rw [<-HQ.out];rfl,bY hB1 (Nat.le_refl _) _ _ _ _⟩
    ·rw [if_neg hm] at hq
     have HQ:=af hq
     have hm':¬((pY t[k]).toNat:Int)=0:=lX (d:=0) hm
     clear hq hm
     go_wp2_with (first
      |(go_at_call 59;refine (CV _ _).mono ?_;rintro e w' ⟨rfl,rfl⟩)
      |(at_builtin;refine fe _ rfl (.tmp 31) (.tmp 33) _ rfl (w.heap.size+1) 5 i0 _ 1 1 Tryz.underlying79 hi0 hz0 hz1 hz2 rfl (by omega) (.slice AO acc.length cO) acc.length _ rfl (HO.out.alloc _) (wo.heap.size+1) (some ⟨wo.heap.size,0,none⟩) 1 1 [ze (pY t[k])] rfl ⟨rfl,fun _=>⟨_,rfl,by simp,World.news_of_block (cs:=#[ze (pY t[k])]) (t:=5) (fr:=(0,0)) (heap_alloc_new wo _)⟩⟩ (by simp [Value.oneCell',ze]) (by simp only [maxLen];omega) (by omega) (by simp;omega) ?_;intro v' w2 hown2 hg2 xw))
     have Gu:=af hown2
     have hlv:=fun q (hq:(Value.slice AO acc.length cO).ownBlock=some q)=>(HO.out.lt q hq).1
     have hB2:Below (w.alloc box).heap.size (w.alloc box) w2:=(HB.out.alloc (by simp;omega) _).grown hg2 (by simp;omega) (by simpa using hlv)
     clear hown2 hg2 xw hlv
     go_roundw
     case rel=>exact ⟨false,acc ++ [pY t[k]],k+1,by omega,rfl,by go_num,by simp;omega,by simpa using Gu.out,hB2,HQ.out⟩
     case measure=>simp [intOf];omega
  ·obtain rfl:k=t.size:=by omega
   rw [adb] at hq
   have HQ:=af hq
   clear hq
   go_wp2
   exact bodyPost_ret (v:=dL none) (by simp [results,Tryz.results35,dL,wM,go_sem,c0,c1,c2,c3]) rfl ⟨by rw [<-HQ.out];rfl,bY hB1 (Nat.le_refl _) _ _ _ _⟩
theorem Je:∀(b:Bool) (acc:List UInt8) (i:Nat) (l:List UInt8) (x:List UInt8) (n:Nat),qL b acc i l=some (x,n)->i+2<=n/\n<=i+l.length+1
 |_,_,_,[],_,_,h=>by cases ‹Bool› <;> simp [qL] at h
 |true,acc,i,c :: r,x,n,h=>by
  rw [qL] at h
  split at h
  ·cases h
  ·have:=Je _ _ _ _ _ _ h
   simp;omega
 |false,acc,i,c :: r,x,n,h=>by
  rw [qL] at h
  split at h
  ·have:=Je _ _ _ _ _ _ h
   simp;omega
  ·split at h
   ·split at h
    ·cases h
    ·simp only [Option.some.injEq,Prod.mk.injEq] at h
     simp;omega
   ·split at h
    ·cases h
    ·have:=Je _ _ _ _ _ _ h
     simp;omega
theorem H7 {p:UInt8->Bool} {l:List UInt8} (h:sU p l=true):0 < iQ p l:=by
 match l with
 |[]=>cases h
 |c :: r=>
  have h':p c=true:=h
  simp [iQ,h']
theorem Eo {l:List UInt8} (h:sU yZ l=true):0 < iQ xq l:=by
 refine H7 ?_
 match l with
 |[]=>cases h
 |c :: r=>
  have h':yZ c=true:=h
  show xq c=true
  simp [xq,h']
theorem Lb (l:List UInt8):wF l<=l.length:=by
 unfold wF
 split
 ·rename_i h
  match l with
  |[]=>simp [doubles] at h
  |[a]=>simp [doubles] at h
  |_ :: _ :: r=>simp
 ·split
  ·rename_i h
   match l with
   |[]=>cases h
   |_ :: r=>simp
  ·omega
theorem qM {l:List UInt8} {t:Tk} {n:Nat} (h:iF l=some (t,n)):0 < n/\n<=l.length:=by
 unfold iF at h
 split at h
 ·rename_i hl
  have h1:=Eo hl
  have h2:=pW xq l
  unfold uD at h
  split at h
  ·simp only [Option.some.injEq,Prod.mk.injEq] at h;omega
  ·split at h
   ·cases h
   ·simp only [Option.some.injEq,Prod.mk.injEq] at h;omega
 ·split at h
  ·rename_i hd
   have h1:=H7 hd
   have h2:=pW nA l
   unfold mP at h
   split at h
   ·cases h
   ·split at h
    ·cases h
    ·split at h
     ·simp only [Option.some.injEq,Prod.mk.injEq] at h;omega
     ·cases h
  ·split at h
   ·rename_i hq
    unfold qa at h
    simp only [Option.map_eq_some_iff] at h
    obtain ⟨⟨x,m⟩,hx,he⟩:=h
    have:=Je _ _ _ _ _ _ hx
    simp only [Prod.mk.injEq] at he
    match l with
    |[]=>cases hq
    |c :: r=>simp at this |-;omega
   ·have h2:=Lb l
    unfold Ay at h
    split at h
    ·cases h
    ·simp only [Option.some.injEq,Prod.mk.injEq] at h;omega
def qN:Nat->Nat->List UInt8->Nat ⊕ List (Tk × Nat)
 |0,k,_=>.inl k
 |_+1,k,[]=>.inr [(⟨0,[],0⟩,k)]
 |f+1,k,c :: r=>
  match iF (c :: r) with
  |none=>.inl k
  |some (t,n)=>
   match qN f (k+n+fF false ((c :: r).drop n)) (((c :: r).drop n).drop (fF false ((c :: r).drop n))) with
   | .inl p=>.inl p
   | .inr ts=>.inr ((t,k) :: ts)
def joinL (acc:List (Tk × Nat)):Nat ⊕ List (Tk × Nat)->Nat ⊕ List (Tk × Nat)
 | .inl p=>.inl p
 | .inr ts=>.inr (acc ++ ts)
theorem uT (f k:Nat):qN (f+1) k []= .inr [(⟨0,[],0⟩,k)]:=rfl
theorem sO {f k:Nat} {l:List UInt8} (hl:l≠[]) (h:iF l=none):qN (f+1) k l= .inl k:=by
 match l,hl with
 |c :: r,_=>rw [qN,h]
theorem sP {f k n:Nat} {l:List UInt8} {t:Tk} (hl:l≠[]) (h:iF l=some (t,n)):qN (f+1) k l=joinL [(t,k)] (qN f (k+n+fF false (l.drop n)) ((l.drop n).drop (fF false (l.drop n)))):=by
 match l,hl with
 |c :: r,_=>
  rw [qN,h]
  dsimp only
  generalize qN f (k+n+fF false ((c :: r).drop n)) (((c :: r).drop n).drop (fF false ((c :: r).drop n)))=x
  cases x <;> rfl
theorem Ep (a b:List (Tk × Nat)) (x:Nat ⊕ List (Tk × Nat)):joinL a (joinL b x)=joinL (a ++ b) x:=by
 cases x <;> simp [joinL]
theorem H8 (x:Nat ⊕ List (Tk × Nat)):joinL [] x=x:=by cases x <;> rfl
def BX:Nat ⊕ List (Tk × Nat)->List (Tk × Nat) × Nat × Int
 | .inl p=>([],p,5)
 | .inr ts=>(ts,0,0)
def BZ (l:List UInt8):List (Tk × Nat) × Nat × Int:=BX (qN (l.length+1) (fF false l) (l.drop (fF false l)))
def oH (l:List UInt8):List (Tk × Nat) × Nat × Int:=if 8192 < l.length then ([],0,2) else BZ l
def fk:Option (Tk × Nat)->Int|none=>0|some (t,_)=>t.k
def ft:Option (Tk × Nat)->ByteArray|none=>⟨#[]⟩|some (t,_)=>bs t.t
def fn:Option (Tk × Nat)->Int|none=>0|some (t,_)=>t.n
def fz:Option (Tk × Nat)->Nat|none=>0|some (_,n)=>n
theorem found_eq (o:Option (Tk × Nat)):dL o= .tuple #[.agg #[.int .i64 (fk o),.string (ft o),.int .i64 (fn o),.int .i64 0],.int .i64 (fz o)]:=by
 cases o <;> rfl
theorem Lc (s:ByteArray) (w:World) (ht:qF w) (hs:s.size<=8192) (h0:0 < s.size) (hl:yZ s[0]=true):
  Calls Tryz.prog 17 #[.string s] w fun e w'=>e= .returned (dL (uD s.data.toList))/\Below w.heap.size w w':=by
 have ht:=af ht
 have hl:=af hl
 obtain ⟨o,ho⟩:=aS (uD s.data.toList)
 rw [ho]
 have HO:=af ho
 clear ho
 go_enter Tryz.func17,Tryz.ntmps17
 go_wp2_with (first
  |(go_at_call 31;refine (mO _ _).mono ?_;rw [hl.out];rintro e w' ⟨rfl,rfl⟩)
  |(go_at_call 33;refine (pO _ _).mono ?_;rw [hd.out];rintro e w' ⟨rfl,rfl⟩)
  |(go_at_call 32;refine (Sg _ _ hs).mono ?_;rw [HO.out,found_eq];rintro e w1 ⟨rfl,hb⟩;obtain ⟨hx1,hf1,_,hB1⟩:=kQ hb;clear hb;have c0:=hx1 0 _ rfl;have c1:=hx1 1 _ rfl;have c2:=hx1 2 _ rfl;have c3:=hx1 3 _ rfl;clear hx1))
 exact bodyPost_ret (v:=.tuple #[.agg #[.int .i64 (fk o),.string (ft o),.int .i64 (fn o),.int .i64 0],.int .i64 (fz o)]) (by simp [results,Tryz.results17,go_sem,c0,c1,c2,c3]) rfl ⟨by rw [found_eq],bY hB1 (Nat.le_refl _) _ _ _ _⟩
theorem Jf (s:ByteArray) (w:World) (ht:qF w) (hs:s.size<=8192) (h0:0 < s.size) (hl:yZ s[0]=false) (hd:nA s[0]=true):
  Calls Tryz.prog 17 #[.string s] w fun e w'=>e= .returned (dL (mP s.data.toList))/\Below w.heap.size w w':=by
 have ht:=af ht
 have hl:=af hl
 have hd:=af hd
 obtain ⟨o,ho⟩:=aS (mP s.data.toList)
 rw [ho]
 have HO:=af ho
 clear ho
 go_enter Tryz.func17,Tryz.ntmps17
 go_wp2_with (first
  |(go_at_call 31;refine (mO _ _).mono ?_;rw [hl.out];rintro e w' ⟨rfl,rfl⟩)
  |(go_at_call 33;refine (pO _ _).mono ?_;rw [hd.out];rintro e w' ⟨rfl,rfl⟩)
  |(go_at_call 34;refine (NB _ _ (ht.out.alloc _) hs h0 hd.out).mono ?_;rw [HO.out,found_eq];rintro e w1 ⟨rfl,hb⟩;obtain ⟨hx1,hf1,_,hB1⟩:=kQ hb;clear hb;have c0:=hx1 0 _ rfl;have c1:=hx1 1 _ rfl;have c2:=hx1 2 _ rfl;have c3:=hx1 3 _ rfl;clear hx1))
 exact bodyPost_ret (v:=.tuple #[.agg #[.int .i64 (fk o),.string (ft o),.int .i64 (fn o),.int .i64 0],.int .i64 (fz o)]) (by simp [results,Tryz.results17,go_sem,c0,c1,c2,c3]) rfl ⟨by rw [found_eq],bY hB1 (Nat.le_refl _) _ _ _ _⟩
theorem Jg (s:ByteArray) (w:World) (ht:qF w) (hs:s.size<=8192) (h0:0 < s.size) (hl:yZ s[0]=false) (hd:nA s[0]=false) (f34:((s[0].toNat:Int) == 34)=true):
  Calls Tryz.prog 17 #[.string s] w fun e w'=>e= .returned (dL (qa s.data.toList))/\Below w.heap.size w w':=by
 have ht:=af ht
 have hl:=af hl
 have hd:=af hd
 obtain ⟨o,ho⟩:=aS (qa s.data.toList)
 rw [ho]
 have HO:=af ho
 clear ho
 go_enter Tryz.func17,Tryz.ntmps17
 go_wp2_with (first
  |(go_at_call 31;refine (mO _ _).mono ?_;rw [hl.out];rintro e w' ⟨rfl,rfl⟩)
  |(go_at_call 33;refine (pO _ _).mono ?_;rw [hd.out];rintro e w' ⟨rfl,rfl⟩)
  |(go_at_call 35;refine (NC _ _ hs h0).mono ?_;rw [HO.out,found_eq];rintro e w1 ⟨rfl,hb⟩;obtain ⟨hx1,hf1,_,hB1⟩:=kQ hb;clear hb;have c0:=hx1 0 _ rfl;have c1:=hx1 1 _ rfl;have c2:=hx1 2 _ rfl;have c3:=hx1 3 _ rfl;clear hx1))
 exact bodyPost_ret (v:=.tuple #[.agg #[.int .i64 (fk o),.string (ft o),.int .i64 (fn o),.int .i64 0],.int .i64 (fz o)]) (by simp [results,Tryz.results17,go_sem,c0,c1,c2,c3]) rfl ⟨by rw [found_eq],bY hB1 (Nat.le_refl _) _ _ _ _⟩
theorem ND (s:ByteArray) (w:World) (ht:qF w) (hs:s.size<=8192) (h0:0 < s.size) (hl:yZ s[0]=false) (hd:nA s[0]=false) (e34:¬(s[0].toNat:Int)=34) (f34:((s[0].toNat:Int) == 34)=false):
  Calls Tryz.prog 17 #[.string s] w fun e w'=>e= .returned (dL (Ay s.data.toList))/\Below w.heap.size w w':=by
 have ht:=af ht
 have hl:=af hl
 have hd:=af hd
 obtain ⟨o,ho⟩:=aS (Ay s.data.toList)
 rw [ho]
 have HO:=af ho
 clear ho
 go_enter Tryz.func17,Tryz.ntmps17
 go_wp2_with (first
  |(go_at_call 31;refine (mO _ _).mono ?_;rw [hl.out];rintro e w' ⟨rfl,rfl⟩)
  |(go_at_call 33;refine (pO _ _).mono ?_;rw [hd.out];rintro e w' ⟨rfl,rfl⟩)
  |(go_at_call 36;refine (UL _ _ hs h0).mono ?_;rw [HO.out,found_eq];rintro e w1 ⟨rfl,hb⟩;obtain ⟨hx1,hf1,_,hB1⟩:=kQ hb;clear hb;have c0:=hx1 0 _ rfl;have c1:=hx1 1 _ rfl;have c2:=hx1 2 _ rfl;have c3:=hx1 3 _ rfl;clear hx1))
 exact bodyPost_ret (v:=.tuple #[.agg #[.int .i64 (fk o),.string (ft o),.int .i64 (fn o),.int .i64 0],.int .i64 (fz o)]) (by simp [results,Tryz.results17,go_sem,c0,c1,c2,c3]) rfl ⟨by rw [found_eq],bY hB1 (Nat.le_refl _) _ _ _ _⟩
theorem H9 (s:ByteArray) (w:World) (ht:qF w) (hs:s.size<=8192) (h0:0 < s.size):
  Calls Tryz.prog 17 #[.string s] w fun e w'=>e= .returned (dL (iF s.data.toList))/\Below w.heap.size w w':=by
 unfold iF
 rw [AA h0,AA h0,AA h0]
 cases hl:yZ s[0]
 ·cases hd:nA s[0]
  ·cases KU:s[0] == 34
   ·have abv:¬s[0]=34:=by simpa using KU
    have e34:¬(s[0].toNat:Int)=34:=lX abv
    simp only [Bool.false_eq_true,if_false]
    exact ND s w ht hs h0 hl hd e34 (beq_eq_false_iff_ne.2 e34)
   ·have abv:s[0]=34:=by simpa using KU
    simp only [Bool.false_eq_true,if_false,if_true]
    exact Jg s w ht hs h0 hl hd (by simpa using Jd abv)
  ·simp only [Bool.false_eq_true,if_false,if_true]
   exact Jf s w ht hs h0 hl hd
 ·simp only [if_true]
  exact Lc s w ht hs h0 hl
def NF (x:Tk × Nat):List Value:=[.int .i64 x.1.k,.string (bs x.1.t),.int .i64 x.1.n,.int .i64 x.2]
theorem Er:(Tryz.prog.info? 53).map (fun i=>(i.zero,i.size,i.bytes))=some (some (.agg #[.int .i64 0,.string ⟨#[]⟩,.int .i64 0,.int .i64 0]),4,40):=by kernel_rfl
theorem NG (t:Tk) (n:Nat):dL (some (t,n))= .tuple #[.agg #[.int .i64 t.k,.string (bs t.t),.int .i64 t.n,.int .i64 0],.int .i64 n]:=rfl
theorem NH:dL none= .tuple #[.agg #[.int .i64 0,.string ⟨#[]⟩,.int .i64 0,.int .i64 0],.int .i64 0]:=rfl
def Jh (x:List (Tk × Nat) × Nat × Int) (w:World) (e:Ending) (w':World):Prop:=
 ∃A c,e= .returned (.tuple #[.slice A x.1.length c,.int .i64 x.2.1,.int .i64 x.2.2])/\w'.ownsRow w.heap.size 53 4 (.slice A x.1.length c) x.1.length (x.1.flatMap NF)/\Below w.heap.size w w'
theorem AB (x:Tk × Nat):∀u∈NF x,u.oneCell'=true:=by
 intro u hu
 simp [NF] at hu
 rcases hu with rfl|rfl|rfl|rfl <;> rfl
theorem QI (s:ByteArray) (w:World) (ht:qF w):Calls Tryz.prog 9 #[.string s] w (Jh (oH s.data.toList) w):=by
 obtain ⟨i0,hi0,hz0,hz1,hz2⟩:=info_parts Er
 obtain ⟨l,hl⟩:=aS s.data.toList
 have hsz:l.length=s.size:=by rw [<-hl];simp
 rw [hl]
 by_cases hs:8192 < s.size
 ·have hd:oH l=([],0,2):=by unfold oH;rw [if_pos (by omega)]
  rw [hd]
  have hs':8192 < (s.size:Int):=by omega
  clear hd hsz hl
  go_enter Tryz.func9,Tryz.ntmps9
  go_wp2
  go_ret3
  exact ⟨none,0,rfl,World.ownsRow_nil _ _ _ 4,Below.refl _ _⟩
 have hd:oH l=BZ l:=by unfold oH;rw [if_neg (by omega)]
 rw [hd]
 clear hd
 unfold BZ
 obtain ⟨g,hg⟩:=aS (fF false l)
 have hgl:g<=l.length:=by rw [<-hg];exact pX _ _
 rw [hg]
 obtain ⟨R,hR⟩:=aS (qN (l.length+1) g (l.drop g))
 rw [hR]
 have HL:=af hl
 have HG:=af hg
 have HR:=af hR
 have HS:=af hsz
 have hg':g<=s.size:=by omega
 clear hl hg hR hsz hgl
 go_enter Tryz.func9,Tryz.ntmps9
 go_wp2_with (go_at_call 16;refine (QE _ _ (by unfold maxLen;omega)).mono ?_;rw [HL.out,HG.out];rintro e w' ⟨rfl,rfl⟩)
 go_loopw [5,6] (fun v i wr=>∃(acc:List (Tk × Nat)) (k f:Nat),k<=s.size/\i= .int .i64 k/\acc.length<=k/\s.size < k+f/\wr.ownsRow w.heap.size 53 4 v acc.length (acc.flatMap NF)/\Below w.heap.size w wr/\joinL acc (qN f k (l.drop k))=R) (fun _ i _=>s.size - (intOf i).toNat)
 case atStart=>exact ⟨[],g,l.length+1,hg',rfl,Nat.zero_le _,by have:=HS.out;omega,World.ownsRow_nil _ _ _ 4,Below.refl _ _,by rw [H8];exact HR.out⟩
 case round=>
  obtain ⟨acc,k,f,hk,rfl,hak,hkf,hown,hB,hq⟩:=hrel
  obtain ⟨wo,rfl⟩:∃wo:World,wo=wr:=⟨_,rfl⟩
  have k0:(0:Int)<=(k:Int):=by omega
  obtain ⟨AO,cO,rfl⟩:=kM hown
  obtain ⟨f',rfl⟩:∃f',f=f'+1:=⟨f - 1,by omega⟩
  have HT:=af (ht.below hB)
  by_cases hlt:k < s.size
  ·have k1:(k:Int) < (s.size:Int):=by omega
   have hne:l.drop k≠[]:=by
    intro e
    have:=congrArg List.length e
    simp at this
    have:=HS.out
    omega
   have hez:(s.extract k s.size).size=s.size - k:=by simp
   have hel:=D8 s k
   rw [HL.out] at hel
   cases ho:iF (l.drop k) with
   |none=>
    rw [sO hne ho] at hq
    have hb0:(s.extract k s.size).size<=8192:=by omega
    have hb1:0 < (s.extract k s.size).size:=by omega
    have HE:=af hel
    have HO:=af ho
    have HQ:=af hq
    clear hel ho hq hez hne
    go_wp2_with (first
     |(go_at_call 17;refine (H9 _ _ HT.out hb0 hb1).mono ?_;rw [HE.out,HO.out,NH];rintro e w1 ⟨rfl,hb⟩;have hB1:Below w.heap.size w w1:=hB.trans (hb.mono hB.size)))
    go_ret3
    rw [<-HQ.out]
    exact ⟨none,0,rfl,World.ownsRow_nil _ _ _ 4,hB1.alloc hB1.size _⟩
   |some x=>
    obtain ⟨t,n⟩:=x
    obtain ⟨n0,n1⟩:=qM ho
    have n2:n<=s.size - k:=by have:=HS.out;simp at n1;omega
    rw [sP hne ho,Ep] at hq
    obtain ⟨g2,hg2⟩:=aS (fF false ((l.drop k).drop n))
    have hgl:=pX false ((l.drop k).drop n)
    rw [hg2] at hq hgl
    have abw:=D8 s (k+n)
    rw [HL.out] at abw
    have hd2:(l.drop k).drop n=l.drop (k+n):=by rw [List.drop_drop]
    have agF:(s.extract (k+n) s.size).size=s.size - (k+n):=by simp
    have hb0:(s.extract k s.size).size<=8192:=by omega
    have hb1:0 < (s.extract k s.size).size:=by omega
    have hb2:(s.extract (k+n) s.size).size<=maxLen:=by unfold maxLen;omega
    have g3:k+n+g2<=s.size:=by have:=HS.out;simp at hgl;omega
    have hn0:¬(n:Int)=0:=by omega
    have fn0:((n:Int) == 0)=false:=by simp;omega
    rw [hd2] at hg2 hq
    have HE:=af hel
    have HE2:=af abw
    have HO:=af ho
    have HG2:=af hg2
    have HOWN:=af hown
    have HQ:=af hq
    clear hel abw ho hg2 hown hq hez agF hd2 hne hgl n1
    go_wp2_with (first
     |(go_at_call 17;refine (H9 _ _ HT.out hb0 hb1).mono ?_;rw [HE.out,HO.out,NG];rintro e w1 ⟨rfl,hb⟩;have Ld:=af (own_below HOWN.out hb);have hB1:Below w.heap.size w w1:=hB.trans (hb.mono hB.size))
     |(at_builtin;refine fe _ rfl (.tmp 30) (.tmp 32) _ rfl w.heap.size 53 i0 _ 4 40 Tryz.underlying34 hi0 hz0 hz1 hz2 rfl (by omega) (.slice AO acc.length cO) acc.length _ rfl ((Ld.out.alloc _).alloc _) (w1.heap.size+1+1) (some ⟨w1.heap.size+1,0,none⟩) 1 1 (NF (t,k)) rfl ⟨rfl,fun _=>⟨_,rfl,by simp,World.news_of_block (cs:=#[.int .i64 t.k,.string (bs t.t),.int .i64 t.n,.int .i64 k]) (t:=53) (fr:=(0,0)) (by simpa using heap_alloc_new (w1.alloc (.cells #[.int .i64 t.k,.string (bs t.t),.int .i64 t.n,.int .i64 k] 53)) _)⟩⟩ (AB _) (by simp only [maxLen];omega) (by omega) (by have:=hB1.size;simp;omega) ?_;intro v' w2 hown2 hg2 xw)
     |(go_at_call 16;refine (QE _ _ hb2).mono ?_;rw [HE2.out,HG2.out];rintro e w' ⟨rfl,rfl⟩))
    have Gu:=af hown2
    have hlv:=fun q (hq:(Value.slice AO acc.length cO).ownBlock=some q)=>(Ld.out.lt q hq).1
    have hB2:Below w.heap.size w w2:=(((hB1.alloc hB1.size _).alloc (by have:=hB1.size;simp;omega) _).grown hg2 (by have:=hB1.size;simp;omega) hlv)
    clear hown2 hg2 xw hlv
    go_roundw
    case rel=>exact ⟨acc ++ [(t,k)],k+n+g2,f',g3,by go_num,by simp;omega,by omega,by simpa using Gu.out,hB2,by rw [<-HQ.out,List.drop_drop]⟩
    case measure=>simp [intOf];omega
  ·obtain rfl:k=s.size:=by omega
   have hnil:l.drop s.size=[]:=List.drop_eq_nil_of_le (by have:=HS.out;omega)
   rw [hnil,uT] at hq
   have HQ:=af hq
   have HOWN:=af hown
   clear hq hnil hown
   go_wp2_with (at_builtin;refine fe _ rfl (.tmp 43) (.tmp 46) _ rfl w.heap.size 53 i0 _ 4 40 Tryz.underlying34 hi0 hz0 hz1 hz2 rfl (by omega) (.slice AO acc.length cO) acc.length _ rfl (HOWN.out.alloc _) (wo.heap.size+1) (some ⟨wo.heap.size,0,none⟩) 1 1 (NF (⟨0,[],0⟩,s.size)) rfl ⟨rfl,fun _=>⟨_,rfl,by simp,World.news_of_block (cs:=#[.int .i64 0,.string ⟨#[]⟩,.int .i64 0,.int .i64 s.size]) (t:=53) (fr:=(0,0)) (heap_alloc_new wo _)⟩⟩ (AB _) (by simp only [maxLen];omega) (by omega) (by have:=hB.size;simp;omega) ?_;intro v' w2 hown2 hg2 xw)
   have hlv:=fun q (hq:(Value.slice AO acc.length cO).ownBlock=some q)=>(HOWN.out.lt q hq).1
   have hB2:Below w.heap.size w w2:=((hB.alloc hB.size _).grown hg2 (by have:=hB.size;simp;omega) hlv)
   obtain ⟨A2,c2,rfl⟩:=kM hown2
   go_ret3
   rw [<-HQ.out]
   exact ⟨A2,c2,by simp [joinL,BX],by simpa [joinL,BX] using hown2,hB2⟩
abbrev T:=Tk × Nat
inductive Tr where
 |mk (k op n:Int) (pkg text:List UInt8) (at_:Nat) (kids:List Tr)
def Tr.kids:Tr->List Tr
 | .mk _ _ _ _ _ _ ks=>ks
def Tr.num:Tr->Int
 | .mk _ _ n _ _ _ _=>n
inductive R where
 |ok (t:Tr) (l:List T)
 |bad (at_:Nat) (e:Int)
 |out
def bnd (r:R) (f:Tr->List T->R):R:=
 match r with
 | .ok t l=>f t l
 | .bad a e=>.bad a e
 | .out=>.out
abbrev NJ (ks:List Tr):Tr:=.mk 0 0 0 [] [] 0 ks
def mark:List T->List UInt8
 |[]=>[]
 |x :: _=>if x.1.k=2\/x.1.k=5 then x.1.t else []
def kind:List T->Int
 |[]=>0
 |x :: _=>x.1.k
def good:List T->Prop
 |[]=>False
 |x :: r=>if x.1.k=0 then r=[]/\x.1.t=[]/\x.1.n=0 else good r
def dI (l:List T) (f:T->List T->R):R:=
 match l with
 |[]=>.out
 |x :: r=>f x r
def refuse (l:List T):R:=dI l fun x _=>.bad x.2 5
def want (m:List UInt8) (l:List T) (f:T->List T->R):R:=if mark l=m then dI l f else refuse l
def fu (k:Int) (l:List T) (f:T->List T->R):R:=if kind l=k then dI l f else refuse l
def enter (m:List UInt8) (l:List T) (o:Nat) (f:T->List T->R):R:=
 want m l fun x r=>if o=40 then .bad x.2 3 else f x r
def skip (m:List UInt8) (l:List T):Bool × List T:=if mark l=m then (true,l.drop 1) else (false,l)
def nd (k:Int) (a:Nat) (ks:List Tr):Tr:=.mk k 0 0 [] [] a ks
def zm (k:Int) (t:List UInt8) (a:Nat) (ks:List Tr):Tr:=.mk k 0 0 [] t a ks
def nC (m:List UInt8):Int × Nat:=
 if m=[124,124] then (18,1) else if m=[38,38] then (17,2) else if m=[61,61] then (11,3) else if m=[33,61] then (12,3) else if m=[60] then (13,3) else if m=[60,61] then (14,3) else if m=[62] then (15,3) else if m=[62,61] then (16,3) else if m=[43] then (1,4) else if m=[45] then (2,4) else if m=[42] then (3,5) else if m=[47] then (4,5) else if m=[37] then (5,5) else (0,0)
inductive Pt where
 |expr|key|param|typeOf|lY|field|sig
inductive NT where
 |expr|binary (k:Nat)|Ca (k:Nat) (t:Tr)|unary|behind (t:Tr)|oq|key
 |within (a c:List UInt8) (p:Pt)|list (p:Pt)|lists (p:Pt) (acc:List Tr)
 |call (t:Tr) (p:Pt)|indexed (t:Tr)|lZ (t:Tr)
 |first|jW|jB|iT|iU|kR
 |block|stats (acc:List Tr)|stat|branch|otherwise|loop|leap (k:Int)|nD|define|simple
 |dh|named (k:Int)|param|typeOf|typeName|head (p:Pt)
 |file|imports (acc:List Tr)|decls (acc:List Tr)|decl|constant|kT|parts (p:Pt) (acc:List Tr)|field|sig|kU|receiver|lY
def Pt.nt:Pt->NT
 | .expr=>.expr| .key=>.key| .param=>.param| .typeOf=>.typeOf| .lY=>.lY| .field=>.field| .sig=>.sig
def KV (m:List UInt8):Bool:=m=[105,110,116] || m=[98,111,111,108] || m=[115,116,114,105,110,103]
def begins (l:List T):Bool:=KV (mark l) || mark l=[42] || mark l=[91] || mark l=[102,117,110,99] || kind l=1
def builtin (m:List UInt8):Bool:=m=[108,101,110] || m=[97,112,112,101,110,100] || m=[112,97,110,105,99] || m=[112,117,116] || m=[103,101,116]
def defines (l:List T):Bool:=
 match l with
 |x :: y :: _=>x.1.k=1 && y.1.k=5 && y.1.t=[58,61]
 |_=>false
def go:Nat->NT->List T->Nat->R
 |0,_,_,_=>.out
 |n+1,nt,l,o=>
  match nt with
  | .expr=>go n (.binary 1) l o
  | .binary k=>bnd (go n .unary l o) fun t l=>go n (.Ca k t) l o
  | .Ca k t=>if (nC (mark l)).2 < k then .ok t l
    else dI l fun x r=>bnd (go n (.binary ((nC (mark l)).2+1)) r o) fun u r=>go n (.Ca k (.mk 31 (nC (mark l)).1 0 [] [] x.2 [t,u])) r o
  | .unary=>
    if mark l=[45] then dI l fun x r=>bnd (go n .unary r o) fun t r=>.ok (.mk 32 1 0 [] [] x.2 [t]) r
    else if mark l=[33] then dI l fun x r=>bnd (go n .unary r o) fun t r=>.ok (.mk 32 3 0 [] [] x.2 [t]) r
    else if mark l=[38] then go n .oq l o
    else bnd (go n .first l o) fun t l=>go n (.behind t) l o
  | .behind t=>
    if mark l=[40] then bnd (go n (.call t .expr) l o) fun t l=>go n (.behind t) l o
    else if mark l=[91] then bnd (go n (.indexed t) l o) fun t l=>go n (.behind t) l o
    else if mark l=[46] then bnd (go n (.lZ t) l o) fun t l=>go n (.behind t) l o
    else .ok t l
  | .oq=>want [38] l fun x l=>bnd (go n .typeName l o) fun t l=>bnd (go n (.within [123] [125] .key) l o) fun ks l=>.ok (nd 38 x.2 (t :: ks.kids)) l
  | .key=>fu 1 l fun x l=>want [58] l fun _ l=>bnd (go n .expr l o) fun t l=>.ok (zm 39 x.1.t x.2 [t]) l
  | .within a c p=>enter a l o fun _ l=>if mark l=c then want c l fun _ l=>.ok (NJ []) l
    else bnd (go n (.list p) l (o+1)) fun ks l=>want c l fun _ l=>.ok (NJ ks.kids) l
  | .list p=>bnd (go n p.nt l o) fun t l=>go n (.lists p [t]) l o
  | .lists p acc=>if mark l=[44] then dI l fun _ l=>bnd (go n p.nt l o) fun t l=>go n (.lists p (acc ++ [t])) l o
    else .ok (NJ acc) l
  | .call t p=>dI l fun x _=>bnd (go n (.within [40] [41] p) l o) fun ks l=>.ok (nd 33 x.2 (t :: ks.kids)) l
  | .indexed t=>enter [91] l o fun x l=>
    if mark l=[58] then dI l fun _ l=>
     if mark l=[93] then dI l fun _ l=>.ok (nd 35 x.2 [t]) l
     else bnd (go n .expr l (o+1)) fun u l=>want [93] l fun _ l=>.ok (.mk 35 0 2 [] [] x.2 [t,u]) l
    else bnd (go n .expr l (o+1)) fun u l=>
     if mark l=[93] then dI l fun _ l=>.ok (nd 34 x.2 [t,u]) l
     else want [58] l fun _ l=>
      if mark l=[93] then dI l fun _ l=>.ok (.mk 35 0 1 [] [] x.2 [t,u]) l
      else bnd (go n .expr l (o+1)) fun v l=>want [93] l fun _ l=>.ok (.mk 35 0 3 [] [] x.2 [t,u,v]) l
  | .lZ t=>want [46] l fun x l=>
    if mark l=[40] then enter [40] l o fun _ l=>bnd (go n .typeOf l (o+1)) fun u l=>want [41] l fun _ l=>.ok (nd 37 x.2 [t,u]) l
    else fu 1 l fun y l=>.ok (zm 36 y.1.t x.2 [t]) l
  | .first=>if kind l=3 then dI l fun x l=>.ok (.mk 26 0 x.1.n [] [] x.2 []) l
    else if kind l=4 then dI l fun x l=>.ok (zm 27 x.1.t x.2 []) l
    else if kind l=1 then dI l fun x l=>.ok (zm 30 x.1.t x.2 []) l
    else go n .jW l o
  | .jW=>
    if mark l=[116,114,117,101] then dI l fun x l=>.ok (.mk 28 0 1 [] [] x.2 []) l
    else if mark l=[102,97,108,115,101] then dI l fun x l=>.ok (nd 28 x.2 []) l
    else if mark l=[110,105,108] then dI l fun x l=>.ok (nd 29 x.2 []) l
    else if mark l=[40] then go n .jB l o
    else if mark l=[91] then go n .iT l o
    else if mark l=[102,117,110,99] then go n .iU l o
    else if builtin (mark l) then dI l fun x l=>go n (.call (zm 30 x.1.t x.2 []) .expr) l o
    else if mark l=[109,97,107,101] then go n .kR l o
    else refuse l
  | .jB=>enter [40] l o fun x l=>
    if mark l=[42] then dI l fun _ l=>bnd (go n .typeName l (o+1)) fun t l=>want [41] l fun _ l=>want [46] l fun _ l=>fu 1 l fun y l=>.ok (zm 42 y.1.t x.2 [t]) l
    else bnd (go n .expr l (o+1)) fun t l=>want [41] l fun _ l=>.ok t l
  | .iT=>enter [91] l o fun x l=>want [93] l fun _ l=>bnd (go n .typeOf l o) fun t l=>bnd (go n (.within [123] [125] .expr) l o) fun ks l=>.ok (nd 40 x.2 (t :: ks.kids)) l
  | .iU=>want [102,117,110,99] l fun x l=>bnd (go n (.head .param) l o) fun h l=>bnd (go n .block l o) fun t l=>.ok (.mk 41 0 h.num [] [] x.2 (h.kids ++ [t])) l
  | .kR=>dI l fun x l=>enter [40] l o fun y l=>bnd (go n .typeOf l (o+1)) fun t l=>want [44] l fun _ l=>bnd (go n .expr l (o+1)) fun u l=>want [41] l fun _ l=>.ok (nd 33 y.2 [zm 30 x.1.t x.2 [],t,u]) l
  | .block=>enter [123] l o fun x l=>bnd (go n (.stats []) l (o+1)) fun ks l=>want [125] l fun _ l=>.ok (nd 17 x.2 ks.kids) l
  | .stats acc=>if mark l=[125] then .ok (NJ acc) l else bnd (go n .stat l o) fun t l=>go n (.stats (acc ++ [t])) l o
  | .stat=>
    if mark l=[118,97,114] then go n .dh l o
    else if mark l=[105,102] then go n .branch l o
    else if mark l=[102,111,114] then go n .loop l o
    else if mark l=[98,114,101,97,107] then go n (.leap 23) l o
    else if mark l=[99,111,110,116,105,110,117,101] then go n (.leap 24) l o
    else if mark l=[114,101,116,117,114,110] then go n .nD l o
    else if mark l=[123] then go n .block l o
    else if defines l then go n .define l o
    else go n .simple l o
  | .branch=>want [105,102] l fun x l=>bnd (go n .expr l o) fun t l=>bnd (go n .block l o) fun u l=>
    if mark l=[101,108,115,101] then dI l fun _ l=>bnd (go n .otherwise l o) fun v l=>.ok (nd 21 x.2 [t,u,v]) l else .ok (nd 21 x.2 [t,u]) l
  | .otherwise=>if mark l=[105,102] then go n .branch l o else go n .block l o
  | .loop=>want [102,111,114] l fun x l=>if mark l=[123] then bnd (go n .block l o) fun t l=>.ok (nd 22 x.2 [t]) l
    else bnd (go n .expr l o) fun t l=>bnd (go n .block l o) fun u l=>.ok (.mk 22 0 1 [] [] x.2 [t,u]) l
  | .leap k=>dI l fun x l=>want [59] l fun _ l=>.ok (nd k x.2 []) l
  | .nD=>want [114,101,116,117,114,110] l fun x l=>if mark l=[59] then dI l fun _ l=>.ok (nd 25 x.2 []) l
    else bnd (go n .expr l o) fun t l=>want [59] l fun _ l=>.ok (nd 25 x.2 [t]) l
  | .define=>fu 1 l fun x l=>want [58,61] l fun _ l=>bnd (go n .expr l o) fun t l=>want [59] l fun _ l=>.ok (zm 18 x.1.t x.2 [t]) l
  | .simple=>bnd (go n .expr l o) fun t l=>if mark l=[61] then dI l fun x l=>bnd (go n .expr l o) fun u l=>want [59] l fun _ l=>.ok (nd 19 x.2 [t,u]) l
    else want [59] l fun x l=>.ok (nd 20 x.2 [t]) l
  | .dh=>want [118,97,114] l fun _ l=>bnd (go n (.named 4) l o) fun t l=>
    if mark l=[61] then dI l fun _ l=>bnd (go n .expr l o) fun u l=>want [59] l fun _ l=>.ok (match t with| .mk a b c d e f ks=>.mk a b c d e f (ks ++ [u])) l
    else want [59] l fun _ l=>.ok t l
  | .named k=>fu 1 l fun x l=>bnd (go n .typeOf l o) fun t l=>.ok (zm k x.1.t x.2 [t]) l
  | .param=>go n (.named 12) l o
  | .typeOf=>
    if KV (mark l) then dI l fun x l=>.ok (zm 13 x.1.t x.2 []) l
    else if mark l=[42] then dI l fun x l=>bnd (go n .typeName l o) fun t l=>.ok (nd 14 x.2 [t]) l
    else if mark l=[91] then enter [91] l o fun x l=>want [93] l fun _ l=>bnd (go n .typeOf l o) fun t l=>.ok (nd 15 x.2 [t]) l
    else if mark l=[102,117,110,99] then dI l fun x l=>bnd (go n (.head .typeOf) l o) fun h l=>.ok (.mk 16 0 h.num [] [] x.2 h.kids) l
    else go n .typeName l o
  | .typeName=>fu 1 l fun x l=>if mark l=[46] then dI l fun _ l=>fu 1 l fun y l=>.ok (.mk 13 0 0 x.1.t y.1.t x.2 []) l
    else .ok (zm 13 x.1.t x.2 []) l
  | .head p=>bnd (go n (.within [40] [41] p) l o) fun ks l=>if begins l then bnd (go n .typeOf l o) fun t l=>.ok (.mk 0 0 1 [] [] 0 (ks.kids ++ [t])) l
    else .ok (NJ ks.kids) l
  | .file=>want [112,97,99,107,97,103,101] l fun x l=>fu 1 l fun y l=>want [59] l fun _ l=>bnd (go n (.imports []) l o) fun ks l=>bnd (go n (.decls ks.kids) l o) fun ks l=>.ok (zm 1 y.1.t x.2 ks.kids) l
  | .imports acc=>if mark l=[105,109,112,111,114,116] then dI l fun _ l=>fu 1 l fun x l=>want [59] l fun _ l=>go n (.imports (acc ++ [zm 2 x.1.t x.2 []])) l o
    else .ok (NJ acc) l
  | .decls acc=>if kind l=0 then .ok (NJ acc) l else bnd (go n .decl l o) fun t l=>go n (.decls (acc ++ [t])) l o
  | .decl=>
    if mark l=[99,111,110,115,116] then go n .constant l o
    else if mark l=[118,97,114] then go n .dh l o
    else if mark l=[116,121,112,101] then go n .kT l o
    else if mark l=[102,117,110,99] then go n .kU l o
    else refuse l
  | .constant=>want [99,111,110,115,116] l fun _ l=>fu 1 l fun x l=>want [61] l fun _ l=>
    if mark l=[45] then dI l fun _ l=>fu 3 l fun y l=>want [59] l fun _ l=>.ok (.mk 3 0 (-y.1.n) [] x.1.t x.2 []) l
    else fu 3 l fun y l=>want [59] l fun _ l=>.ok (.mk 3 0 y.1.n [] x.1.t x.2 []) l
  | .kT=>want [116,121,112,101] l fun _ l=>fu 1 l fun x l=>
    if mark l=[115,116,114,117,99,116] then dI l fun _ l=>enter [123] l o fun _ l=>bnd (go n (.parts .field []) l (o+1)) fun ks l=>want [125] l fun _ l=>.ok (zm 5 x.1.t x.2 ks.kids) l
    else if mark l=[105,110,116,101,114,102,97,99,101] then dI l fun _ l=>enter [123] l o fun _ l=>bnd (go n (.parts .sig []) l (o+1)) fun ks l=>want [125] l fun _ l=>.ok (zm 7 x.1.t x.2 ks.kids) l
    else refuse l
  | .parts p acc=>if mark l=[125] then .ok (NJ acc) l else bnd (go n p.nt l o) fun t l=>go n (.parts p (acc ++ [t])) l o
  | .field=>bnd (go n (.named 6) l o) fun t l=>want [59] l fun _ l=>.ok t l
  | .sig=>fu 1 l fun x l=>bnd (go n (.head .typeOf) l o) fun h l=>want [59] l fun _ l=>.ok (.mk 8 0 h.num [] x.1.t x.2 h.kids) l
  | .kU=>want [102,117,110,99] l fun _ l=>
    if mark l=[40] then bnd (go n .receiver l o) fun t l=>fu 1 l fun x l=>bnd (go n (.head .param) l o) fun h l=>bnd (go n .block l o) fun u l=>.ok (.mk 10 0 h.num [] x.1.t x.2 (t :: h.kids ++ [u])) l
    else fu 1 l fun x l=>
     if mark l=[91] then enter [91] l o fun _ l=>bnd (go n (.list .lY) l (o+1)) fun ks l=>want [93] l fun _ l=>bnd (go n (.head .param) l o) fun h l=>bnd (go n .block l o) fun u l=>.ok (.mk 9 0 h.num [] x.1.t x.2 (ks.kids ++ h.kids ++ [u])) l
     else bnd (go n (.head .param) l o) fun h l=>bnd (go n .block l o) fun u l=>.ok (.mk 9 0 h.num [] x.1.t x.2 (h.kids ++ [u])) l
  | .receiver=>enter [40] l o fun _ l=>fu 1 l fun x l=>want [42] l fun y l=>fu 1 l fun z l=>want [41] l fun _ l=>.ok (zm 12 x.1.t x.2 [nd 14 y.2 [zm 13 z.1.t z.2 []]]) l
  | .lY=>fu 1 l fun x l=>
    if mark l=[97,110,121] then dI l fun _ l=>.ok (zm 11 x.1.t x.2 []) l
    else if mark l=[99,111,109,112,97,114,97,98,108,101] then dI l fun _ l=>.ok (.mk 11 0 1 [] x.1.t x.2 []) l
    else bnd (go n .typeName l o) fun t l=>.ok (.mk 11 0 2 [] x.1.t x.2 [t]) l
theorem Ib {w:World} {base n c:Nat} {A:Option Addr} {xs:List Value} (h:w.ownsRow base 53 4 (.slice A n c) n xs) (hn:0 < n):
  ∃g,A=some ⟨g,0,none⟩/\n<=c/\base<=g/\g < w.heap.size/\(∀i,w.frozen? ⟨g,i,none⟩=false)/\∀j u,xs[j]? =some u->w.cell? ⟨g,j,none⟩=some u:=by
 rcases h.2 with ⟨_,h0⟩|⟨g,cap,cur,hv,hb,hg,hnc,_,_,_⟩
 ·omega
 ·injection hv with h1 h2 h3
  subst h1 h3
  refine ⟨g,rfl,hnc,hb,ag.lt hg,ag.frozen hg,fun j u hu=>?_⟩
  have:=h.cells (g:=g) rfl j u hu
  rw [<-this]
  congr 1
  unfold Addr.add
  by_cases hj:j=0 <;> simp [hj]
theorem Es {l:List UInt8} {t:Tk} {n:Nat} (h:iF l=some (t,n)):((l.drop n).drop (fF false (l.drop n))).length < l.length:=by
 have:=qM h
 simp;omega
theorem YC:∀(f k:Nat) (l:List UInt8),l.length < f->∀ts,qN f k l= .inr ts->ts≠[]
 |0,_,_,h,_,_=>by omega
 |f+1,k,l,h,ts,e=>by
  by_cases hl:l=[]
  ·subst hl
   rw [uT] at e
   injection e with e
   rw [<-e];simp
  ·cases ho:iF l with
   |none=>rw [sO hl ho] at e;cases e
   |some x=>
    obtain ⟨t,n⟩:=x
    rw [sP hl ho] at e
    generalize qN f (k+n+fF false (l.drop n)) ((l.drop n).drop (fF false (l.drop n)))=y at e
    cases y with
    |inl p=>cases e
    |inr us=>simp only [joinL] at e;injection e with e;rw [<-e];simp
theorem zK:∀(f k:Nat) (l:List UInt8),l.length < f->(∀p,qN f k l= .inl p->p<=k+l.length)/\(∀ts,qN f k l= .inr ts->ts.length<=l.length+1)
 |0,_,_,h=>by omega
 |f+1,k,l,h=>by
  by_cases hl:l=[]
  ·subst hl
   rw [uT]
   exact ⟨fun p e=>(by cases e),fun ts e=>by injection e with e;rw [<-e];simp⟩
  ·cases ho:iF l with
   |none=>
    rw [sO hl ho]
    exact ⟨fun p e=>(by injection e with e;omega),fun ts e=>by cases e⟩
   |some x=>
    obtain ⟨t,n⟩:=x
    have h1:=qM ho
    have h2:=Es ho
    have h3:=pX false (l.drop n)
    obtain ⟨b1,b2⟩:=zK f (k+n+fF false (l.drop n)) ((l.drop n).drop (fF false (l.drop n))) (by omega)
    rw [sP hl ho]
    simp only [List.length_drop] at b1 b2 h2 h3
    generalize qN f (k+n+fF false (l.drop n)) ((l.drop n).drop (fF false (l.drop n)))=y at b1 b2
    cases y with
    |inl p=>exact ⟨fun q e=>(by simp only [joinL] at e;injection e with e;have:=b1 p rfl;omega),fun ts e=>by cases e⟩
    |inr us=>exact ⟨fun q e=>(by cases e),fun ts e=>by (simp only [joinL] at e;injection e with e;have:=b2 us rfl;rw [<-e];simp;omega)⟩
theorem CX:∀(f k:Nat) (l:List UInt8),l.length < f->∀ts,qN f k l= .inr ts->∀x∈ts,k<=x.2/\x.2<=k+l.length
 |0,_,_,h,_,_=>by omega
 |f+1,k,l,h,ts,e=>by
  by_cases hl:l=[]
  ·subst hl
   rw [uT] at e
   injection e with e
   subst e
   intro x hx
   simp only [List.mem_singleton] at hx
   subst hx
   exact ⟨Nat.le_refl _,by simp⟩
  ·cases ho:iF l with
   |none=>rw [sO hl ho] at e;cases e
   |some x=>
    obtain ⟨t,n⟩:=x
    have h1:=qM ho
    have h2:=Es ho
    have h3:=pX false (l.drop n)
    have ih:=CX f (k+n+fF false (l.drop n)) ((l.drop n).drop (fF false (l.drop n))) (by omega)
    rw [sP hl ho] at e
    simp only [List.length_drop] at ih h2 h3
    generalize qN f (k+n+fF false (l.drop n)) ((l.drop n).drop (fF false (l.drop n)))=y at e ih
    cases y with
    |inl p=>cases e
    |inr us=>
     simp only [joinL] at e
     injection e with e
     subst e
     intro x hx
     simp only [List.singleton_append,List.mem_cons] at hx
     rcases hx with rfl|hx
     ·exact ⟨Nat.le_refl _,by simp⟩
     ·have:=ih us rfl x hx
      omega
theorem NK {l:List UInt8} {p:Nat} (h:oH l=([],p,5)):p<=l.length:=by
 unfold oH at h
 split at h
 ·cases h
 ·unfold BZ at h
  have hb:=(zK (l.length+1) (fF false l) (l.drop (fF false l)) (by simp;omega)).1
  have hg:=pX false l
  generalize qN (l.length+1) (fF false l) (l.drop (fF false l))=y at h hb
  cases y with
  |inl q=>
   have:=hb q rfl
   simp only [BX,Prod.mk.injEq] at h
   simp only [List.length_drop] at this
   omega
  |inr ts=>simp [BX] at h
theorem NL {l:List UInt8} {ts:List (Tk × Nat)} (h:oH l=(ts,0,0)):ts.length<=l.length+1/\ts≠[]/\l.length<=8192:=by
 unfold oH at h
 split at h
 ·simp at h
 ·unfold BZ at h
  have hb:=(zK (l.length+1) (fF false l) (l.drop (fF false l)) (by simp;omega)).2
  have hn:=YC (l.length+1) (fF false l) (l.drop (fF false l)) (by simp;omega)
  generalize qN (l.length+1) (fF false l) (l.drop (fF false l))=y at h hb hn
  cases y with
  |inl q=>simp [BX] at h
  |inr us=>
   have h1:=hb us rfl
   have h2:=hn us rfl
   simp only [BX,Prod.mk.injEq] at h
   simp only [List.length_drop] at h1
   rw [<-h.1]
   exact ⟨by omega,h2,by omega⟩
theorem CY {l:List UInt8} {ts:List (Tk × Nat)} (h:oH l=(ts,0,0)):∀x∈ts,x.2<=l.length:=by
 unfold oH at h
 split at h
 ·simp at h
 ·unfold BZ at h
  have hb:=CX (l.length+1) (fF false l) (l.drop (fF false l)) (by simp;omega)
  have hg:=pX false l
  generalize qN (l.length+1) (fF false l) (l.drop (fF false l))=y at h hb
  cases y with
  |inl q=>simp [BX] at h
  |inr us=>
   simp only [BX,Prod.mk.injEq] at h
   rw [<-h.1]
   intro x hx
   have:=hb us rfl x hx
   simp only [List.length_drop] at this
   omega
theorem AJ:∀(ts:List (Tk × Nat)) (j i:Nat) (x:Tk × Nat),ts[j]? =some x->i < 4->(ts.flatMap NF)[j*4+i]? =(NF x)[i]?
 |[],j,i,x,h,_=>by simp at h
 |y :: r,0,i,x,h,hi=>by
  simp at h;subst h
  rw [List.flatMap_cons,List.getElem?_append_left (by simp [NF];omega)]
  congr 1;omega
 |y :: r,j+1,i,x,h,hi=>by
  have h':r[j]? =some x:=by simpa using h
  rw [List.flatMap_cons,List.getElem?_append_right (by simp [NF];omega)]
  have e:(j+1)*4+i - (NF y).length=j*4+i:=by simp [NF];omega
  rw [e]
  exact AJ r j i x h' hi
structure AL (w:World) (g:Nat) (ts:List (Tk × Nat)):Prop where
 lt:g < w.heap.size
 cell:∀j x,ts[j]? =some x->w.cell? ⟨g,j*4,none⟩=some (.int .i64 x.1.k)/\w.cell? ⟨g,j*4+1,none⟩=some (.string (bs x.1.t))/\w.cell? ⟨g,j*4+2,none⟩=some (.int .i64 x.1.n)/\w.cell? ⟨g,j*4+3,none⟩=some (.int .i64 x.2)
theorem AL.below {w w':World} {g:Nat} {ts:List (Tk × Nat)} (h:AL w g ts) (hb:Below w.heap.size w w'):AL w' g ts:=
 ⟨Nat.lt_of_lt_of_le h.lt hb.size,fun j x hx=>by
  obtain ⟨h0,h1,h2,h3⟩:=h.cell j x hx
  exact ⟨(hb.cell (p:=⟨g,_,none⟩) h.lt).trans h0,(hb.cell (p:=⟨g,_,none⟩) h.lt).trans h1,(hb.cell (p:=⟨g,_,none⟩) h.lt).trans h2,(hb.cell (p:=⟨g,_,none⟩) h.lt).trans h3⟩⟩
theorem UN (s:ByteArray) (ts:List (Tk × Nat)) (w:World) (ht:qF w) (hne:ts≠[]) (h:oH s.data.toList=(ts,0,0)):
  Calls Tryz.prog 9 #[.string s] w fun e w'=>∃g c,e= .returned (.tuple #[.slice (some ⟨g,0,none⟩) ts.length c,.int .i64 0,.int .i64 0])/\Below w.heap.size w w'/\ts.length<=c/\AL w' g ts:=by
 have:=QI s w ht
 rw [h] at this
 refine this.mono ?_
 rintro e w1 ⟨A,c,rfl,hown,hB⟩
 obtain ⟨g,rfl,hgc,_,hgs,_,hcl⟩:=Ib hown (List.length_pos_iff.2 hne)
 refine ⟨g,c,rfl,hB,hgc,hgs,fun j x hx=>⟨hcl _ _ ?_,hcl _ _ ?_,hcl _ _ ?_,hcl _ _ ?_⟩⟩
 ·exact AJ ts j 0 x hx (by omega)
 ·exact AJ ts j 1 x hx (by omega)
 ·exact AJ ts j 2 x hx (by omega)
 ·exact AJ ts j 3 x hx (by omega)
theorem AP (s:ByteArray) (a n:Nat):s.extract a (a+n)=bs ((s.data.toList.drop a).take n):=by
 refine ByteArray.ext ?_
 rw [<-Array.toList_inj,ext_list];simp [bs]
theorem Et (l:List UInt8):(∃ts,oH l=(ts,0,0))\/(∃p e,oH l=([],p,e)/\p<=l.length/\(e=2\/e=5)):=by
 by_cases h:8192 < l.length
 ·exact .inr ⟨0,2,by unfold oH;rw [if_pos h],by omega,.inl rfl⟩
 ·have h2:oH l=BZ l:=by unfold oH;rw [if_neg h]
  cases hx:qN (l.length+1) (fF false l) (l.drop (fF false l)) with
  |inl p=>
   have:oH l=([],p,5):=by rw [h2];unfold BZ;rw [hx];rfl
   exact .inr ⟨p,5,this,NK this,.inr rfl⟩
  |inr ts=>exact .inl ⟨ts,by rw [h2];unfold BZ;rw [hx];rfl⟩
theorem YD (s:ByteArray) (p:Nat) (n:Int) (w:World) (ht:qF w) (h:oH s.data.toList=([],p,n)):
  Calls Tryz.prog 9 #[.string s] w fun e w'=>∃A c,e= .returned (.tuple #[.slice A 0 c,.int .i64 p,.int .i64 n])/\Below w.heap.size w w':=by
 have:=QI s w ht
 rw [h] at this
 exact this.mono fun e w' ⟨A,c,he,_,hb⟩=>⟨A,c,he,hb⟩
section
variable {P : Program} {ops : Array Oper} {Q : Exit -> Act -> World -> Prop}
def Sj (L:Array Bool):Nat:=(L.toList.filter (!·)).length
theorem Jj (L:Array Bool) (i:Nat) (h:L.getD i true=false):Sj (L.setIfInBounds i true)+1=Sj L:=by
 obtain ⟨l⟩:=L
 unfold Sj
 have hi:i < l.length:=by
  rcases Nat.lt_or_ge i l.length with h'|h'
  ·exact h'
  ·simp [h'] at h
 have hv:l[i]=false:=by simpa [hi] using h
 simp only [List.setIfInBounds_toArray]
 clear h
 induction l generalizing i with
 |nil=>simp at hi
 |cons x l ih=>
  cases i with
  |zero=>
   simp at hv
   subst hv
   simp
  |succ i=>
   simp at hi hv
   have:=ih i hi hv
   cases x <;> simp at this |- <;> omega
def nU (m n:Nat):Array Bool:=(List.replicate m true ++ List.replicate (n - m) false).toArray
theorem Ic {m n:Nat} (h:m<=n):(nU m n).size=n:=by simp [nU];omega
theorem UO (m n:Nat):Sj (nU m n)=n - m:=by
 simp [nU,Sj,List.filter_append]
theorem QJ {m n:Nat} {L:Array Bool} (h:m<=n) (hs:L.size=n) (h1:∀i,i < m->L.getD i true=true) (h2:∀i,m<=i->i < n->L.getD i true=false):L=nU m n:=by
 apply Array.ext (by rw [hs,Ic h])
 intro i hi hi2
 have hg:L.getD i true=L[i]:=by simp [Array.getD,hi]
 rw [<-hg]
 rcases Nat.lt_or_ge i m with hlt|hge
 ·rw [h1 i hlt];simp [nU,hlt]
 ·rw [h2 i hge (by omega)];simp [nU,List.getElem_append];omega
def preB (ops:Array Oper) (m:Nat):Bool:=
 decide (m<=ops.size) && (List.range ops.size).all fun i=>match ops[i]? with
  |none=>false
  |some o=>if i < m then o.guard.isNone && o.after.all (fun e=>!Region.binds .any e || decide (e.on < i)) && (List.range i).all (fun j=>match ops[j]? with
    |none=>false
    |some o'=>o'.dst.isNone || o'.dst != o.dst)
   else (List.range m).all fun j=>o.after.any fun e=>e.on == j && Region.binds .any e
theorem zL {m:Nat} (h:preB ops m=true):m<=ops.size/\(∀(i:Nat) (o:Oper),ops[i]? =some o->i < m->o.guard=none/\∀e∈o.after,Region.binds .any e=true->e.on < i)/\
  (∀(i j:Nat) (o o':Oper) (t:Nat),i < m->j < m->ops[i]? =some o->ops[j]? =some o'->i≠j->o.dst=some t->o'.dst≠some t)/\
  (∀(i:Nat) (o:Oper),ops[i]? =some o->m<=i->∀j,j < m->∃e∈o.after,e.on=j/\Region.binds .any e=true):=by
 unfold preB at h
 simp only [Bool.and_eq_true,decide_eq_true_eq,List.all_eq_true,List.mem_range] at h
 obtain ⟨h1,h2⟩:=h
 have key:∀(i:Nat) (o:Oper),ops[i]? =some o->i < m->o.guard.isNone=true/\(∀e∈o.after,Region.binds .any e=true->e.on < i)/\∀(j:Nat),j < i->∀(o':Oper),ops[j]? =some o'->o'.dst=none\/o'.dst≠o.dst:=by
  intro i o ho hi
  have:=h2 i (Array.getElem?_eq_some_iff.1 ho).1
  rw [ho] at this
  simp only [if_pos hi,Bool.and_eq_true,List.all_eq_true,List.mem_range] at this
  obtain ⟨⟨k1,k2⟩,k3⟩:=this
  refine ⟨k1,?_,?_⟩
  ·intro e he hb
   have:=(Array.all_eq_true_iff_forall_mem.1 k2) e he
   simpa [hb] using this
  ·intro j hj o' ho'
   have:=k3 j hj
   rw [ho'] at this
   simpa using this
 refine ⟨h1,fun i o ho hi=>⟨by simpa using (key i o ho hi).1,(key i o ho hi).2.1⟩,?_,?_⟩
 ·intro i j o o' t hi hj ho ho' hij hd hd'
  rcases Nat.lt_or_ge i j with hlt|hge
  ·rcases (key j o' ho' hj).2.2 i hlt o ho with k|k
   ·rw [hd] at k;cases k
   ·exact k (by rw [hd,hd'])
  ·rcases (key i o ho hi).2.2 j (by omega) o' ho' with k|k
   ·rw [hd'] at k;cases k
   ·exact k (by rw [hd,hd'])
 ·intro i o ho hi j hj
  have:=h2 i (Array.getElem?_eq_some_iff.1 ho).1
  rw [ho] at this
  simp only [if_neg (show ¬i < m by omega),List.all_eq_true,List.mem_range] at this
  have:=this j hj
  rw [Array.any_eq_true] at this
  obtain ⟨k,hk,he⟩:=this
  simp at he
  exact ⟨o.after[k],Array.getElem_mem hk,he.1,he.2⟩
theorem Ie {m:Nat} (hB:preB ops m=true) (I:Array Bool->Act->World->Prop)
  (hs:∀(L:Array Bool) (a:Act) (w:World) (i:Nat) (o:Oper),L.size=ops.size->ops[i]? =some o->i < m->L.getD i true=false->(∀e∈o.after,Region.binds .any e=true->L.getD e.on false=true)->I L a w->wpOp P ops Q i (I (L.setIfInBounds i true)) a w)
  (he:∀a w,I (nU m ops.size) a w->wpAny P .any ops Q (ops.size - m) (nU m ops.size) a w):
  ∀(n:Nat) (L:Array Bool) (a:Act) (w:World),L.size=ops.size->(∀i,m<=i->i < ops.size->L.getD i true=false)->Sj L=n->I L a w->wpAny P .any ops Q n L a w:=by
 obtain ⟨b1,b2,_,b4⟩:=zL hB
 intro n
 induction n with
 |zero=>
  intro L a w h1 h2 h3 h4
  have hall:∀i,i < ops.size->L.getD i true=true:=by
   intro i hi
   cases hv:L.getD i true with
   |true=>rfl
   |false=>have:=Jj L i hv;omega
  have hm:m=ops.size:=by
   rcases Nat.lt_or_ge m ops.size with hlt|hge
   ·have:=h2 m (Nat.le_refl _) hlt;rw [hall m hlt] at this;cases this
   ·omega
  have hL:L=nU m ops.size:=QJ b1 h1 (fun i hi=>hall i (by omega)) h2
  have:=he a w (hL▸h4)
  rw [<-hL] at this
  rwa [show ops.size - m=0 by omega] at this
 |succ n ih=>
  intro L a w h1 h2 h3 h4
  by_cases hd:∀i,i < m->L.getD i true=true
  ·have hL:L=nU m ops.size:=QJ b1 h1 hd h2
   have:=he a w (hL▸h4)
   have hn:=UO m ops.size
   rw [<-hL,h3] at hn
   rw [<-hL,<-hn] at this
   exact this
  ·have hu:∃i,i < m/\L.getD i true=false:=by
    apply Classical.byContradiction
    intro hc
    refine hd fun i hi=>?_
    cases hv:L.getD i true with
    |true=>rfl
    |false=>exact absurd ⟨i,hi,hv⟩ hc
   have hex:∃i,i∈Region.ready .any ops L/\i < m:=by
    obtain ⟨i,hi,hv⟩:=hu
    revert hi hv
    induction i using Nat.strongRecOn with
    |_ i ih2=>
     intro hi hv
     by_cases hr:i∈Region.ready .any ops L
     ·exact ⟨i,hr,hi⟩
     ·have Yc:i < ops.size:=by omega
      have ho:=Array.getElem?_eq_getElem Yc
      have:∃e∈ops[i].after,Region.binds .any e=true/\L.getD e.on false≠true:=by
       apply Classical.byContradiction
       intro hc
       exact hr (mem_ready.2 ⟨hv,ops[i],ho,fun e he hb=>Classical.byContradiction fun hx=>hc ⟨e,he,hb,hx⟩⟩)
      obtain ⟨e,he,hb,hx⟩:=this
      have hlt:=(b2 i _ ho hi).2 e he hb
      refine ih2 e.on hlt (by omega) ?_
      have:e.on < L.size:=by omega
      simp only [Array.getD,this,dif_pos] at hx |-
      simpa using hx
   refine ⟨fun hr=>?_,fun i hi=>?_⟩
   ·obtain ⟨i,hi,_⟩:=hex
    rw [hr] at hi;cases hi
   ·obtain ⟨g1,o,g2,g3⟩:=mem_ready.1 hi
    have him:i < m:=by
     rcases Nat.lt_or_ge i m with hlt|hge
     ·exact hlt
     ·obtain ⟨j,hj,hv⟩:=hu
      obtain ⟨e,he1,he2,he3⟩:=b4 i o g2 hge j hj
      have:=g3 e he1 he3
      rw [he2] at this
      have hjl:j < L.size:=by omega
      simp [Array.getD,hjl] at this hv
      rw [this] at hv;cases hv
    have hu:=Jj L i g1
    refine wpOp_mono (fun a w h=>ih _ a w (by simpa using h1) (fun k hk hk2=>?_) (by omega) h) (hs L a w i o h1 g2 him g1 g3 h4)
    rw [getD_set_ne true (by omega)]
    exact h2 k hk hk2
def bG (vals:Nat->Value):List Oper->Nat->Act->Act
 |[],_,a=>a
 |o :: l,k,a=>bG vals l (k+1) (a.put o.dst (vals k))
theorem Eu (a:Act) (d:Option Tmp) (v:Value):(a.put d v).tmps.size=a.tmps.size:=by cases d <;> simp [Act.put]
theorem Jk (a:Act) (d:Option Tmp) (v:Value) (t:Nat) (h:d≠some t):(a.put d v).tmps[t]? =a.tmps[t]? :=by
 cases d with
 |none=>rfl
 |some d=>simp [Act.put];rw [Array.getElem?_setIfInBounds_ne (fun e=>h (by rw [e]))]
theorem Le (a:Act) (v:Value) (t:Nat) (h:t < a.tmps.size):(a.put (some t) v).tmps[t]? =some v:=by
 simp [Act.put,h]
theorem put_defers (a:Act) (d:Option Tmp) (v:Value):(a.put d v).defers=a.defers:=by cases d <;> rfl
theorem xx {a a':Act} {t:Nat} (h:a.tmps[t]? =a'.tmps[t]?):a.eval (.tmp t)=a'.eval (.tmp t):=by
 unfold Act.eval;simp only [Array.getD_eq_getD_getElem?,h]
theorem eval_put_ne (a:Act) (d:Option Tmp) (v:Value) (t:Nat) (h:d≠some t):(a.put d v).eval (.tmp t)=a.eval (.tmp t):=xx (Jk a d v t h)
theorem oN (a:Act) (v:Value) (t:Nat) (h:t < a.tmps.size):(a.put (some t) v).eval (.tmp t)=v:=by
 unfold Act.eval;simp only [Array.getD_eq_getD_getElem?,Le a v t h];rfl
theorem GD (vals:Nat->Value) (l:List Oper):∀(k:Nat) (a:Act),(bG vals l k a).defers=a.defers:=by
 induction l with
 |nil=>intro k a;rfl
 |cons o l ih=>intro k a;simp [bG,ih,put_defers]
theorem AQ (vals:Nat->Value) (l:List Oper):∀(k:Nat) (a:Act) (t:Nat),(∀o∈l,o.dst≠some t)->(bG vals l k a).tmps[t]? =a.tmps[t]? :=by
 induction l with
 |nil=>intro k a t _;rfl
 |cons o l ih=>intro k a t h;rw [bG,ih _ _ _ (fun o ho=>h o (List.mem_cons_of_mem _ ho)),Jk _ _ _ _ (h o List.mem_cons_self)]
theorem Sk (vals:Nat->Value) (l:List Oper):∀(k:Nat) (a:Act) (i:Nat) (o:Oper) (t:Nat),l[i]? =some o->o.dst=some t->(∀(j:Nat) (o':Oper),j≠i->l[j]? =some o'->o'.dst≠some t)->t < a.tmps.size->(bG vals l k a).tmps[t]? =some (vals (k+i)):=by
 induction l with
 |nil=>intro k a i o t h;simp at h
 |cons x l ih=>
  intro k a i o t h hd hn ht
  cases i with
  |zero=>
   simp at h
   subst h
   rw [bG,AQ,hd,Le _ _ _ ht]
   ·rfl
   ·intro o' ho'
    obtain ⟨j,hj⟩:=List.mem_iff_getElem?.1 ho'
    exact hn (j+1) o' (by omega) (by simpa using hj)
  |succ i=>
   rw [bG,ih (k+1) _ i o t (by simpa using h) hd (fun j o' hj ho'=>hn (j+1) o' (by omega) (by simpa using ho')) (by rw [Eu];exact ht)]
   congr 2
   omega
def Ux (ops:Array Oper) (m n:Nat):Bool:=(ops.toList.take m).all fun o=>match o.dst with|some d=>decide (d < n)|none=>true
theorem UQ {m n:Nat} (h:Ux ops m n=true):∀(i:Nat) (o:Oper) (d:Nat),i < m->ops[i]? =some o->o.dst=some d->d < n:=by
 intro i o d hi ho hd
 have:=(List.all_eq_true.1 h) o (List.mem_iff_getElem?.2 ⟨i,by rw [List.getElem?_take_of_lt hi];simpa using ho⟩)
 rw [hd] at this
 simpa using this
def upd {α:Type} (f:Nat->α) (i:Nat) (v:α):Nat->α:=fun k=>if k=i then v else f k
theorem jc {α:Type} (f:Nat->α) (i:Nat) (v:α):upd f i v i=v:=if_pos rfl
theorem upd_ne {α:Type} (f:Nat->α) (i:Nat) (v:α) {k:Nat} (h:k≠i):upd f i v k=f k:=if_neg h
theorem rE {id:Nat} {a0:Act} {w0:World} (m:Nat) (hm:P.follows .mixedOrders=true) (hB:preB ops m=true)
  (J:(Nat->Bool)->(Nat->Value)->World->Prop) (hJL:∀L L' vals w,(∀i,i < m->L i=L' i)->J L vals w->J L' vals w) (hJ:∀vals,J (fun _=>false) vals w0.drew)
  (n:Nat) (hn:a0.tmps.size=n) (agG:Ux ops m n=true)
  (hs:∀(i:Nat) (o:Oper),ops[i]? =some o->i < m->∀(a:Act) (w:World) (L:Nat->Bool) (vals:Nat->Value),J L vals w->L i=false->a.defers=a0.defers->(∀t,(∀o'∈ops,o'.dst≠some t)->a.eval (.tmp t)=a0.eval (.tmp t))->
   (∀(j:Nat) (o':Oper) (d:Nat),j < m->ops[j]? =some o'->o'.dst=some d->L j=true->a.eval (.tmp d)=vals j)->(∀e∈o.after,Region.binds .any e=true->L e.on=true)->
   ∀K:Act->World->Prop,(∀v w',J (upd L i true) (upd vals i v) w'->K (a.put o.dst v) w')->o.wp P a w K Q)
  (he:∀(vals:Nat->Value) (w:World) (a:Act),a=bG vals (ops.toList.take m) 0 a0->a.defers=a0.defers->(∀t,(∀o'∈ops,o'.dst≠some t)->a.eval (.tmp t)=a0.eval (.tmp t))->(∀(j:Nat) (o':Oper) (d:Nat),j < m->ops[j]? =some o'->o'.dst=some d->a.eval (.tmp d)=vals j)->a.tmps.size=n->J (fun _=>true) vals w->wpAny P .any ops Q (ops.size - m) (nU m ops.size) a w):
  (Code.region id ops true).wp P Q a0 w0:=by
 obtain ⟨b1,b2,b3,_⟩:=zL hB
 have hin:=UQ agG
 rw [<-hn] at hin
 have hw:∀(i:Nat) (o:Oper) (a:Act),i < m->ops[i]? =some o->Region.wanted o (yielded ops a.tmps)=true:=fun i o a hi ho=>by simp [Region.wanted,(b2 i o ho hi).1]
 refine wp_region_any hm (Ie hB (fun L a w=>(∀i,m<=i->i < ops.size->L.getD i true=false)/\a.defers=a0.defers/\a.tmps.size=a0.tmps.size/\(∀t,(∀(i:Nat) (o:Oper),i < m->ops[i]? =some o->L.getD i true=true->o.dst≠some t)->a.tmps[t]? =a0.tmps[t]?)/\
  ∃vals:Nat->Value,(∀(i:Nat) (o:Oper) (d:Nat),i < m->ops[i]? =some o->o.dst=some d->L.getD i true=true->a.eval (.tmp d)=vals i)/\J (fun i=>L.getD i true) vals w) ?_ ?_ _ _ _ _ (by simp) ?_ (by simp [Sj]) ?_)
 ·intro L a w i o hL ho hi hl hall hI
  obtain ⟨i0,i2,i3,i4,vals,i5,iJ⟩:=hI
  unfold wpOp
  simp only [ho,hw i o a hi ho,if_true]
  refine .inl ?_
  have Yc:i < ops.size:=(Array.getElem?_eq_some_iff.1 ho).1
  refine hs i o ho hi a w _ vals iJ hl i2 ?_ (fun j o' d hj ho' hd hl'=>i5 j o' d hj ho' hd hl') ?_ _ ?_
  ·intro t ht
   exact xx (i4 t (fun k o' _ ho' _=>ht o' (Array.mem_of_getElem? ho')))
  ·intro e he1 he2
   have h1:=hall e he1 he2
   have h3:=(b2 i o ho hi).2 e he1 he2
   have h2:e.on < L.size:=by omega
   simpa [Array.getD,h2] using h1
  ·intro v w' hJw
   refine ⟨fun k hk hk2=>?_,by rw [put_defers];exact i2,by rw [Eu];exact i3,fun t ht=>?_,upd vals i v,?_,?_⟩
   ·rw [getD_set_ne true (by omega)];exact i0 k hk hk2
   ·have hself:o.dst≠some t:=ht i o hi ho (by simp [Array.getD,hL,Yc])
    rw [Jk _ _ _ _ hself]
    refine i4 t fun k o' hk ho' hlk=>ht k o' hk ho' ?_
    by_cases hki:i=k
    ·subst hki;simp [Array.getD,hL,Yc]
    ·rw [getD_set_ne true hki];exact hlk
   ·intro k o' d hk ho' hd hlk
    by_cases hki:i=k
    ·subst hki
     obtain rfl:o=o':=by rw [ho] at ho';exact Option.some.inj ho'
     have hdl:d < a.tmps.size:=by rw [i3];exact hin i o d hi ho hd
     rw [hd,oN _ _ _ hdl,jc]
    ·rw [getD_set_ne true hki] at hlk
     have hne:o.dst≠some d:=b3 k i o' o d hk hi ho' ho (Ne.symm hki) hd
     rw [eval_put_ne _ _ _ _ hne,upd_ne _ _ _ (Ne.symm hki)]
     exact i5 k o' d hk ho' hd hlk
   ·refine hJL _ _ _ _ (fun k _=>?_) hJw
    by_cases hki:k=i
    ·subst hki
     rw [jc]
     simp [Array.getD,hL,Yc]
    ·rw [upd_ne _ _ _ hki,getD_set_ne true (Ne.symm hki)]
 ·intro a w hI
  obtain ⟨_,i2,i3,i4,Ig,i5,iJ⟩:=hI
  have hall:∀i,i < m->(nU m ops.size).getD i true=true:=by
   intro i hi
   have:i < (nU m ops.size).size:=by rw [Ic b1];omega
   simp [Array.getD,nU,hi]
  have hfin:a=bG Ig (ops.toList.take m) 0 a0:=by
   have ht:a.tmps=(bG Ig (ops.toList.take m) 0 a0).tmps:=by
    apply Array.ext_getElem?
    intro t
    by_cases hx:∃(k:Nat) (o':Oper),k < m/\ops[k]? =some o'/\o'.dst=some t
    ·obtain ⟨k,o',hk,ho',hd⟩:=hx
     have htl:=hin k o' t hk ho' hd
     rw [Sk Ig _ 0 a0 k o' t (by rw [List.getElem?_take_of_lt hk];simpa using ho') hd (fun j o2 hj ho2=>?_) htl]
     ·have h5:=i5 k o' t hk ho' hd (hall k hk)
      rw [Nat.zero_add,<-h5]
      have:t < a.tmps.size:=by omega
      simp [Act.eval,this]
     ·have hj2:j < m:=by
       rcases Nat.lt_or_ge j m with hlt|hge
       ·exact hlt
       ·rw [List.getElem?_take_eq_none hge] at ho2;cases ho2
      rw [List.getElem?_take_of_lt hj2] at ho2
      exact b3 k j o' o2 t hk hj2 ho' (by simpa using ho2) (Ne.symm hj) hd
    ·rw [AQ]
     ·exact i4 t fun k o' hk ho' _ hd=>hx ⟨k,o',hk,ho',hd⟩
     ·intro o' ho' hd
      obtain ⟨k,hk⟩:=List.mem_iff_getElem?.1 ho'
      have hk2:k < m:=by
       rcases Nat.lt_or_ge k m with hlt|hge
       ·exact hlt
       ·rw [List.getElem?_take_eq_none hge] at hk;cases hk
      rw [List.getElem?_take_of_lt hk2] at hk
      exact hx ⟨k,o',hk2,by simpa using hk,hd⟩
   have hdf:a.defers=(bG Ig (ops.toList.take m) 0 a0).defers:=by rw [GD];exact i2
   cases a
   cases hp:bG Ig (ops.toList.take m) 0 a0
   rw [hp] at ht hdf
   simp only at ht hdf
   rw [ht,hdf]
  refine he Ig w a hfin i2 (fun t ht=>xx (i4 t (fun k o' _ ho' _=>ht o' (Array.mem_of_getElem? ho')))) (fun k o' d hk ho' hd=>i5 k o' d hk ho' hd (hall k hk)) (by rw [i3,hn]) (hJL _ _ _ _ (fun k hk=>hall k hk) iJ)
 ·intro i _ hi2
  simp [Array.getD,hi2]
 ·refine ⟨fun i hi hi2=>by simp [Array.getD,hi2],rfl,rfl,fun t _=>rfl,fun _=>undef,fun i o d hi _ _ h=>?_,hJL _ _ _ _ (fun i hi=>?_) (hJ _)⟩
  ·have Yc:i < ops.size:=by omega
   simp [Array.getD,Yc] at h
  ·have Yc:i < ops.size:=by omega
   simp [Array.getD,Yc]
theorem o6 {n i:Nat} {L:Array Bool} {a:Act} {w:World} {o:Oper} (hr:Region.ready .any ops L=[i]) (ho:ops[i]? =some o) (hg:o.guard=none)
  (h:o.wp P a w (fun a' w'=>wpAny P .any ops Q n (L.setIfInBounds i true) a' w') Q):wpAny P .any ops Q (n+1) L a w:=by
 refine ⟨(fun h'=>by rw [hr] at h';cases h'),fun j hj=>?_⟩
 rw [hr] at hj
 obtain rfl:j=i:=by simpa using hj
 unfold wpOp
 have hw:Region.wanted o (yielded ops a.tmps)=true:=by simp [Region.wanted,hg]
 simp only [ho,hw,if_true]
 exact .inl h
theorem sQ {L:Array Bool} {a:Act} {w:World} (hr:Region.ready .any ops L=[]) (h:Q .normal a w):wpAny P .any ops Q 0 L a w:=⟨hr,h⟩
end
section
variable {P : Program} {md : Region.Mode} {ops : Array Oper} {Q : Exit -> Act -> World -> Prop} {S : World -> Prop} {oi : Oper} {fuel : Nat} {L L2 : Array Bool} {a a2 : Act} {w : World}
theorem aQ (i:Nat) {v:Value} (hS:S w) (h:wpAnyH P md ops Q S fuel (L.setIfInBounds i true) a2 w) (hi:ops[i]? =some oi:=by rfl)
  (hs:Region.noSelect ops=true:=by kernel_rfl) (hf:Region.free md ops L i=true:=by kernel_rfl) (hr:(Region.ready md ops L).contains i=true:=by kernel_rfl)
  (hQ:∀c a w,Q (.panic c) (a.put oi.dst v) w->Q (.panic c) a w:=by exact fun _ _ _ h=>h)
  (hy:YieldsIf P ops S oi v a:=by exact Or.inl ⟨rfl,fun w' hS=>by (unfold execOp;go_simp;first|done|exact rfl)⟩)
  (hp:a.put oi.dst v=a2:=by (simp only [Act.put,List.getElem_toArray,List.getElem_cons_zero,List.getElem_cons_succ,List.setIfInBounds_toArray,List.set_cons_zero,List.set_cons_succ];exact rfl)):wpAnyH P md ops Q S (fuel+1) L a w:=
 wpAnyH_take hi hs hf hr hQ hy hS (hp▸h)
theorem iV (i:Nat) {v:Value} (hS:S w) (h:wpAnyH P md ops Q S fuel (L.setIfInBounds i true) a2 w) (hi:ops[i]? =some oi:=by rfl)
  (hs:Region.noSelect ops=true:=by kernel_rfl) (hf:Region.free md ops L i=true:=by kernel_rfl) (hr:(Region.ready md ops L).contains i=true:=by kernel_rfl)
  (hQ:∀c a w,Q (.panic c) (a.put oi.dst v) w->Q (.panic c) a w:=by exact fun _ _ _ h=>h)
  (hy:YieldsIf P ops S oi v a:=by exact Or.inl ⟨by kernel_rfl,fun w' hS=>by (unfold execOp;go_simp;first|done|exact rfl)⟩)
  (hp:a.put oi.dst v=a2:=by (simp only [Act.put,List.getElem_toArray,List.getElem_cons_zero,List.getElem_cons_succ,List.setIfInBounds_toArray,List.set_cons_zero,List.set_cons_succ];exact rfl)):wpAnyH P md ops Q S (fuel+1) L a w:=
 wpAnyH_take hi hs hf hr hQ hy hS (hp▸h)
theorem lg (i:Nat) {v:Value} (hS:S w) (h:wpAnyH P md ops Q S fuel (L.setIfInBounds i true) a2 w) (hi:ops[i]? =some oi:=by rfl)
  (hs:Region.noSelect ops=true:=by kernel_rfl) (hf:Region.free md ops L i=true:=by kernel_rfl) (hr:(Region.ready md ops L).contains i=true:=by kernel_rfl)
  (hQ:∀c a w,Q (.panic c) (a.put oi.dst v) w->Q (.panic c) a w:=by exact fun _ _ _ h=>h)
  (hy:YieldsIf P ops S oi v a:=by exact Or.inr ⟨by kernel_rfl,rfl⟩)
  (hp:a.put oi.dst v=a2:=by (simp only [Act.put,List.getElem_toArray,List.getElem_cons_zero,List.getElem_cons_succ,List.setIfInBounds_toArray,List.set_cons_zero,List.set_cons_succ];exact rfl)):wpAnyH P md ops Q S (fuel+1) L a w:=
 wpAnyH_take hi hs hf hr hQ hy hS (hp▸h)
theorem oU (i:Nat) {v:Value} (hS:S w) (h:wpAnyH P md ops Q S fuel (L.setIfInBounds i true) a2 w) (hi:ops[i]? =some oi:=by rfl)
  (he:∀w',S w'->(execOp a.eval oi).run P w'= .ok (.value v) w') (hw:Region.wanted oi (yielded ops a.tmps)=true:=by exact rfl)
  (hs:Region.noSelect ops=true:=by kernel_rfl) (hf:Region.free md ops L i=true:=by kernel_rfl) (hr:(Region.ready md ops L).contains i=true:=by kernel_rfl)
  (hQ:∀c a w,Q (.panic c) (a.put oi.dst v) w->Q (.panic c) a w:=by exact fun _ _ _ h=>h)
  (hp:a.put oi.dst v=a2:=by (simp only [Act.put,List.getElem_toArray,List.getElem_cons_zero,List.getElem_cons_succ,List.setIfInBounds_toArray,List.set_cons_zero,List.set_cons_succ];exact rfl)):wpAnyH P md ops Q S (fuel+1) L a w:=
 wpAnyH_take hi hs hf hr hQ (Or.inl ⟨hw,he⟩) hS (hp▸h)
theorem Sl (i:Nat) {v:Value} (hS:S w) (h:wpAnyH P md ops Q S fuel (L.setIfInBounds i true) a2 w) (hi:ops[i]? =some oi:=by rfl)
  (he:∀w',S w'->(execOp a.eval oi).run P w'= .ok (.value v) w') (hw:Region.wanted oi (yielded ops a.tmps)=true:=by kernel_rfl)
  (hs:Region.noSelect ops=true:=by kernel_rfl) (hf:Region.free md ops L i=true:=by kernel_rfl) (hr:(Region.ready md ops L).contains i=true:=by kernel_rfl)
  (hQ:∀c a w,Q (.panic c) (a.put oi.dst v) w->Q (.panic c) a w:=by exact fun _ _ _ h=>h)
  (hp:a.put oi.dst v=a2:=by (simp only [Act.put,List.getElem_toArray,List.getElem_cons_zero,List.getElem_cons_succ,List.setIfInBounds_toArray,List.set_cons_zero,List.set_cons_succ];exact rfl)):wpAnyH P md ops Q S (fuel+1) L a w:=
 wpAnyH_take hi hs hf hr hQ (Or.inl ⟨hw,he⟩) hS (hp▸h)
theorem jS (i:Nat) {v:Value} {C:World->Prop} (hS:S w) (h:wpAnyH P md ops Q S fuel (L.setIfInBounds i true) a2 w) (hz:∀w',S w'->C w') (hi:ops[i]? =some oi:=by rfl)
  (he:∀w',C w'->(execOp a.eval oi).run P w'= .ok (.value v) w':=by (intro w' z;unfold execOp;go_simp;first|done|exact rfl)) (hw:Region.wanted oi (yielded ops a.tmps)=true:=by exact rfl)
  (hs:Region.noSelect ops=true:=by kernel_rfl) (hf:Region.free md ops L i=true:=by kernel_rfl) (hr:(Region.ready md ops L).contains i=true:=by kernel_rfl)
  (hQ:∀c a w,Q (.panic c) (a.put oi.dst v) w->Q (.panic c) a w:=by exact fun _ _ _ h=>h)
  (hp:a.put oi.dst v=a2:=by (simp only [Act.put,List.getElem_toArray,List.getElem_cons_zero,List.getElem_cons_succ,List.setIfInBounds_toArray,List.set_cons_zero,List.set_cons_succ];exact rfl)):wpAnyH P md ops Q S (fuel+1) L a w:=
 wpAnyH_take hi hs hf hr hQ (Or.inl ⟨hw,fun w' hS=>he w' (hz w' hS)⟩) hS (hp▸h)
theorem mQ (i:Nat) {v:Value} {C:World->Prop} (hS:S w) (h:wpAnyH P md ops Q S fuel (L.setIfInBounds i true) a2 w) (hz:∀w',S w'->C w') (hi:ops[i]? =some oi:=by rfl)
  (he:∀w',C w'->(execOp a.eval oi).run P w'= .ok (.value v) w':=by (intro w' z;unfold execOp;go_simp;first|done|exact rfl)) (hw:Region.wanted oi (yielded ops a.tmps)=true:=by kernel_rfl)
  (hs:Region.noSelect ops=true:=by kernel_rfl) (hf:Region.free md ops L i=true:=by kernel_rfl) (hr:(Region.ready md ops L).contains i=true:=by kernel_rfl)
  (hQ:∀c a w,Q (.panic c) (a.put oi.dst v) w->Q (.panic c) a w:=by exact fun _ _ _ h=>h)
  (hp:a.put oi.dst v=a2:=by (simp only [Act.put,List.getElem_toArray,List.getElem_cons_zero,List.getElem_cons_succ,List.setIfInBounds_toArray,List.set_cons_zero,List.set_cons_succ];exact rfl)):wpAnyH P md ops Q S (fuel+1) L a w:=
 wpAnyH_take hi hs hf hr hQ (Or.inl ⟨hw,fun w' hS=>he w' (hz w' hS)⟩) hS (hp▸h)
theorem Jl (i:Nat) (v:Value) (hS:S w) (h:wpAnyH P md ops Q S fuel (L.setIfInBounds i true) (a.put oi.dst v) w)
  (hi:ops[i]? =some oi:=by rfl) (he:∀w',S w'->(execOp a.eval oi).run P w'= .ok (.value v) w':=by (intro w' hS;unfold execOp;go_simp)) (hw:Region.wanted oi (yielded ops a.tmps)=true:=by exact rfl)
  (hs:Region.noSelect ops=true:=by kernel_rfl) (hf:Region.free md ops L i=true:=by kernel_rfl) (hr:(Region.ready md ops L).contains i=true:=by kernel_rfl)
  (hQ:∀c a w,Q (.panic c) (a.put oi.dst v) w->Q (.panic c) a w:=by exact fun _ _ _ h=>h):wpAnyH P md ops Q S (fuel+1) L a w:=
 wpAnyH_take hi hs hf hr hQ (Or.inl ⟨hw,he⟩) hS h
theorem eZ (h:Q .normal a w) (hr:Region.ready md ops L=[]:=by kernel_rfl):wpAnyH P md ops Q S fuel L a w:=wpAnyH_done hr h fuel
end
structure Gr (S:Nat->Prop) (w w':World):Prop where
 os:w'.os=w.os
 tape:w'.tape=w.tape
 output:w'.output=w.output
 size:w.heap.size<=w'.heap.size
 block:∀k,k < w.heap.size->¬S k->w'.heap[k]? =w.heap[k]?
section
variable {S S' : Nat -> Prop} {w w' w'' : World}
theorem Gr.refl (w:World):Gr S w w:=⟨rfl,rfl,rfl,Nat.le_refl _,fun _ _ _=>rfl⟩
theorem Gr.trans (h:Gr S w w') (k:Gr S w' w''):Gr S w w'':=
 ⟨k.os.trans h.os,k.tape.trans h.tape,k.output.trans h.output,Nat.le_trans h.size k.size,fun n hn hs=>(k.block n (Nat.lt_of_lt_of_le hn h.size) hs).trans (h.block n hn hs)⟩
theorem Gr.mono (h:Gr S w w') (hs:∀k,k < w.heap.size->S k->S' k):Gr S' w w':=⟨h.os,h.tape,h.output,h.size,fun k hk hn=>h.block k hk fun h'=>hn (hs k hk h')⟩
theorem Gr.alloc (h:Gr S w w') (o:Obj):Gr S w (w'.alloc o):=
 ⟨h.os,h.tape,h.output,Nat.le_trans h.size (by simp),fun k hk hs=>(Below.heap_alloc w' o k (Nat.lt_of_lt_of_le hk h.size)).trans (h.block k hk hs)⟩
theorem Gr.setCell (h:Gr S w w') {p:Addr} (hp:w.heap.size<=p.block\/S p.block) (v:Value):Gr S w (w'.setCell p v):=
 ⟨h.os,h.tape,h.output,by rw [show (w'.setCell p v).heap.size=w'.heap.size by simp];exact h.size,fun k hk hs=>(Below.heap_setCell w' p v k (by
  rintro rfl
  rcases hp with hp|hp
  ·omega
  ·exact hs hp)).trans (h.block k hk hs)⟩
theorem Gr.drew (h:Gr S w w'):Gr S w w'.drew:=⟨h.os,h.tape,h.output,h.size,h.block⟩
theorem Gr.of_below (h:Below w.heap.size w w'):Gr S w w':=⟨h.os,h.tape,h.output,h.size,fun k hk _=>h.block k hk⟩
theorem Gr.below (h:Gr S w w') (hs:∀k,k < w.heap.size->¬S k):Below w.heap.size w w':=⟨h.os,h.tape,h.output,h.size,fun k hk=>h.block k hk (hs k hk)⟩
theorem Gr.Ev {row:Option Nat} (h:w.grownBy w' row) (hs:∀k,row=some k->k < w.heap.size->S k):Gr S w w':=
 ⟨h.os,h.tape,h.output,h.size,fun k hk hn=>h.block k hk (fun e=>hn (hs k e.symm hk))⟩
theorem Gr.blk {g:Nat} {t:TypeId} {cs:Array Value} (h:Gr S w w') (hb:ag w g t cs) (hs:¬S g):ag w' g t cs:=(h.block g hb.lt hs).trans hb
theorem Gr.cell (h:Gr S w w') {p:Addr} (hp:p.block < w.heap.size) (hs:¬S p.block):w'.cell? p=w.cell? p:=World.cell?_of_block (h.block p.block hp hs)
theorem Gr.wide (h:Gr S w w') (k:Gr S' w' w'') (hs:∀n,n < w.heap.size->S' n->S n):Gr S w w'':=
 ⟨k.os.trans h.os,k.tape.trans h.tape,k.output.trans h.output,Nat.le_trans h.size k.size,fun n hn hS=>(k.block n (Nat.lt_of_lt_of_le hn h.size) (fun h'=>hS (hs n hn h'))).trans (h.block n hn hS)⟩
end
def GG (k op n:Int) (p t:List UInt8) (a:Nat) (v:Value):List Value:=[.int .i64 k,.int .i64 op,.int .i64 n,.string (bs p),.string (bs t),.int .i64 a,v]
def Row (w:World) (F:Nat->Prop) (A:Option Addr) (n:Nat) (xs:List Value):Prop:=
 xs.length=n*7/\(0 < n->∃g,A=some ⟨g,0,none⟩/\F g/\g < w.heap.size/\(∀j u,xs[j]? =some u->w.cell? ⟨g,j,none⟩=some u)/\∀i,w.frozen? ⟨g,i,none⟩=false)
mutual
def nW (w:World) (F:Nat->Prop):Tr->List Value->Prop
 | .mk k op n p t a ks,vs=>∃A c xs,vs=GG k op n p t a (.slice A ks.length c)/\Row w F A ks.length xs/\bO w F ks xs
def bO (w:World) (F:Nat->Prop):List Tr->List Value->Prop
 |[],xs=>xs=[]
 |t :: r,xs=>∃h q,xs=h ++ q/\nW w F t h/\bO w F r q
end
section
variable {w w' : World} {F F' : Nat -> Prop}
theorem Row.keep {A:Option Addr} {n:Nat} {xs:List Value} (h:Row w F A n xs) (hk:∀g,F g->g < w.heap.size->w'.heap[g]? =w.heap[g]?) (hs:w.heap.size<=w'.heap.size) (hF:∀g,g < w.heap.size->F g->F' g):Row w' F' A n xs:=
 ⟨h.1,fun hn=>by
  obtain ⟨g,e,h1,h2,h3,h4⟩:=h.2 hn
  exact ⟨g,e,hF g h2 h1,by omega,fun j u hu=>(World.cell?_of_block (hk g h1 h2)).trans (h3 j u hu),fun i=>(World.frozen?_of_block (a:=⟨g,i,none⟩) (hk g h1 h2)).trans (h4 i)⟩⟩
mutual
theorem nW.keep (hk:∀g,F g->g < w.heap.size->w'.heap[g]? =w.heap[g]?) (hs:w.heap.size<=w'.heap.size) (hF:∀g,g < w.heap.size->F g->F' g):∀(t:Tr) (vs:List Value),nW w F t vs->nW w' F' t vs
 | .mk k op n p t a ks,vs,h=>by
  simp only [nW] at h |-
  obtain ⟨A,c,xs,h1,h2,h3⟩:=h
  exact ⟨A,c,xs,h1,h2.keep hk hs hF,bO.keep hk hs hF ks xs h3⟩
theorem bO.keep (hk:∀g,F g->g < w.heap.size->w'.heap[g]? =w.heap[g]?) (hs:w.heap.size<=w'.heap.size) (hF:∀g,g < w.heap.size->F g->F' g):∀(ts:List Tr) (xs:List Value),bO w F ts xs->bO w' F' ts xs
 |[],xs,h=>by simpa only [bO] using h
 |t :: r,xs,h=>by
  simp only [bO] at h |-
  obtain ⟨a,q,h1,h2,h3⟩:=h
  exact ⟨a,q,h1,nW.keep hk hs hF t a h2,bO.keep hk hs hF r q h3⟩
end
theorem nW.gr {S:Nat->Prop} {t:Tr} {vs:List Value} (h:nW w F t vs) (hg:Gr S w w') (hS:∀g,F g->g < w.heap.size->¬S g) (hF:∀g,g < w.heap.size->F g->F' g):nW w' F' t vs:=
 nW.keep (fun g h1 h2=>hg.block g h2 (hS g h1 h2)) hg.size hF t vs h
theorem bO.gr {S:Nat->Prop} {ts:List Tr} {xs:List Value} (h:bO w F ts xs) (hg:Gr S w w') (hS:∀g,F g->g < w.heap.size->¬S g) (hF:∀g,g < w.heap.size->F g->F' g):bO w' F' ts xs:=
 bO.keep (fun g h1 h2=>hg.block g h2 (hS g h1 h2)) hg.size hF ts xs h
theorem nW.length:∀{t:Tr} {vs:List Value},nW w F t vs->vs.length=7
 | .mk ..,vs,h=>by
  simp only [nW] at h
  obtain ⟨A,c,xs,rfl,_⟩:=h
  rfl
theorem nW.one:∀{t:Tr} {vs:List Value},nW w F t vs->∀u∈vs,u.oneCell'=true
 | .mk ..,vs,h,u,hu=>by
  simp only [nW] at h
  obtain ⟨A,c,xs,rfl,_⟩:=h
  simp only [GG,List.mem_cons,List.not_mem_nil,or_false] at hu
  rcases hu with rfl|rfl|rfl|rfl|rfl|rfl|rfl <;> rfl
theorem bO.length:∀{ts:List Tr} {xs:List Value},bO w F ts xs->xs.length=ts.length*7
 |[],xs,h=>by simp only [bO] at h;subst h;rfl
 |t :: r,xs,h=>by
  simp only [bO] at h
  obtain ⟨a,q,rfl,h2,h3⟩:=h
  have:=bO.length h3
  have:=h2.length
  simp only [List.length_append,List.length_cons];omega
theorem bO.one:∀{ts:List Tr} {xs:List Value},bO w F ts xs->∀u∈xs,u.oneCell'=true
 |[],xs,h,u,hu=>by simp only [bO] at h;subst h;cases hu
 |t :: r,xs,h,u,hu=>by
  simp only [bO] at h
  obtain ⟨a,q,rfl,h2,h3⟩:=h
  rcases List.mem_append.1 hu with hu|hu
  ·exact h2.one u hu
  ·exact bO.one h3 u hu
theorem bO.append:∀{ts us:List Tr} {xs ys:List Value},bO w F ts xs->bO w F us ys->bO w F (ts ++ us) (xs ++ ys)
 |[],us,xs,ys,h,k=>by simp only [bO] at h;subst h;exact k
 |t :: r,us,xs,ys,h,k=>by
  simp only [bO] at h
  obtain ⟨a,q,rfl,h2,h3⟩:=h
  simp only [List.cons_append,bO]
  exact ⟨a,q ++ ys,by rw [List.append_assoc],h2,bO.append h3 k⟩
theorem bO.single {t:Tr} {vs:List Value} (h:nW w F t vs):bO w F [t] vs:=by
 simp only [bO];exact ⟨vs,[],by simp,h,rfl⟩
theorem nW.shape {t:Tr} {vs:List Value} (h:nW w F t vs):∃k op n:Int,∃p tx:List UInt8,∃a m c:Nat,∃A,vs=GG k op n p tx a (.slice A m c):=by
 cases t
 simp only [nW] at h
 obtain ⟨A,c,xs,rfl,_⟩:=h
 exact ⟨_,_,_,_,_,_,_,_,_,rfl⟩
end
def Fp (lo:Nat) (g:Nat):Prop:=lo<=g
def aI (w:World) (lo:Nat) (v:Value) (ks:List Tr):Prop:=
 ∃xs,w.ownsRow lo 24 7 v ks.length xs/\bO w (fun g=>lo<=g/\v.ownBlock≠some g) ks xs
section
variable {w w' : World} {lo : Nat}
theorem aI.nil (w:World) (lo c:Nat):aI w lo (.slice none 0 0) []:=⟨[],World.ownsRow_nil _ _ _ 7,by simp only [bO]⟩
theorem aI.shape {v:Value} {ks:List Tr} (h:aI w lo v ks):∃A c,v= .slice A ks.length c:=by
 obtain ⟨xs,h1,_⟩:=h
 exact kM h1
theorem aI.own {v:Value} {ks:List Tr} (h:aI w lo v ks) {g:Nat} (hg:v.ownBlock=some g):lo<=g/\g < w.heap.size:=by
 obtain ⟨xs,h1,_⟩:=h
 have:=h1.lt g hg
 exact ⟨this.1,this.2⟩
theorem aI.rep {v:Value} {ks:List Tr} (h:aI w lo v ks) (k op n:Int) (p t:List UInt8) (a:Nat):nW w (Fp lo) (.mk k op n p t a ks) (GG k op n p t a v):=by
 obtain ⟨xs,h1,h2⟩:=h
 obtain ⟨A,c,rfl⟩:=kM h1
 simp only [nW]
 refine ⟨A,c,xs,rfl,⟨h1.1,fun hn=>?_⟩,bO.keep (fun _ _ _=>rfl) (Nat.le_refl _) (fun g _ hg=>hg.1) _ _ h2⟩
 obtain ⟨g,cap,hv,_,hlt⟩:=h1.form hn
 have hA:A=some ⟨g,0,none⟩:=by injection hv
 subst hA
 refine ⟨g,rfl,(h1.lt g rfl).1,hlt,fun j u hu=>?_,fun i=>h1.frozenAt i⟩
 have:=h1.cells (g:=g) rfl j u hu
 rw [<-this]
 congr 1
 unfold Addr.add
 by_cases hj:j=0 <;> simp [hj]
theorem AR {base size n:Nat} {e:TypeId} {v:Value} {xs:List Value} (h:w.ownsRow base e size v n xs) (hk:∀g,v.ownBlock=some g->g < w.heap.size->w'.heap[g]? =w.heap[g]?):w'.ownsRow base e size v n xs:=by
 refine ⟨h.1,?_⟩
 rcases h.2 with h2|⟨g,cap,cur,rfl,hg,hh,r⟩
 ·exact .inl h2
 ·exact .inr ⟨g,cap,cur,rfl,hg,(hk g rfl (Array.getElem?_eq_some_iff.1 hh).1).trans hh,r⟩
theorem aI.gr {S:Nat->Prop} {v:Value} {ks:List Tr} (h:aI w lo v ks) (hg:Gr S w w') (hS:∀g,lo<=g->g < w.heap.size->¬S g):aI w' lo v ks:=by
 obtain ⟨xs,h1,h2⟩:=h
 exact ⟨xs,AR h1 fun g hv hlt=>hg.block g hlt (hS g (h1.lt g hv).1 hlt),h2.gr hg (fun g h1 h2=>hS g h1.1 h2) (fun g _ h=>h)⟩
theorem aI.mono {lo':Nat} {v:Value} {ks:List Tr} (h:aI w lo v ks) (hl:lo'<=lo):aI w lo' v ks:=by
 obtain ⟨xs,h1,h2⟩:=h
 exact ⟨xs,Eg h1 hl,bO.keep (fun _ _ _=>rfl) (Nat.le_refl _) (fun g _ hg=>⟨Nat.le_trans hl hg.1,hg.2⟩) _ _ h2⟩
theorem aI.alloc {v:Value} {ks:List Tr} (h:aI w lo v ks) (o:Obj):aI (w.alloc o) lo v ks:=h.gr ((Gr.refl w (S:=fun _=>False)).alloc o) (fun _ _ _ h=>h)
theorem aI.drew {v:Value} {ks:List Tr} (h:aI w lo v ks):aI w.drew lo v ks:=h.gr ((Gr.refl w (S:=fun _=>False)).drew) (fun _ _ _ h=>h)
theorem aI.setCell {v:Value} {ks:List Tr} (h:aI w lo v ks) {p:Addr} (hp:p.block < lo) (u:Value):aI (w.setCell p u) lo v ks:=
 h.gr ((Gr.refl w (S:=fun k=>k=p.block)).setCell (.inr rfl) u) (fun g h1 _ h2=>by omega)
theorem aI.lit {ks:List Tr} {cs:Array Value} (h:bO w (Fp lo) ks cs.toList) (hl:lo<=w.heap.size) (hm:ks.length<=maxLen) {n:Nat} (hn:ks.length=n):aI (w.alloc (.cells cs 24)) lo (.slice (some ⟨w.heap.size,0,none⟩) n n) ks:=by
 have hc:cs.size=ks.length*7:=by have:=bO.length h;simpa using this
 subst hn
 refine ⟨cs.toList,World.ownsRow_lit w cs _ hl hm hc,bO.keep (fun g _ hg=>Below.heap_alloc w _ g hg) (by simp) (fun g hlt hg=>⟨hg,?_⟩) _ _ h⟩
 simp only [Value.ownBlock,ne_eq,Option.some.injEq]
 omega
theorem aI.app {v v':Value} {ks us:List Tr} {xs news:List Value} (h:w.ownsRow lo 24 7 v ks.length xs) (h2:bO w (fun g=>lo<=g/\v.ownBlock≠some g) ks xs) (h3:bO w (fun g=>lo<=g/\v.ownBlock≠some g) us news)
  (h4:w'.ownsRow lo 24 7 v' (ks.length+us.length) (xs ++ news)) (h5:w.grownBy w' v.ownBlock) (h6:v'.ownBlock=v.ownBlock\/v'.ownBlock=some w.heap.size):aI w' lo v' (ks ++ us):=by
 refine ⟨xs ++ news,by rw [List.length_append];exact h4,bO.keep (fun g hg hlt=>h5.block g hlt (Ne.symm hg.2)) h5.size (fun g hlt hg=>⟨hg.1,?_⟩) _ _ (bO.append h2 h3)⟩
 rcases h6 with h6|h6
 ·rw [h6];exact hg.2
 ·rw [h6];simp only [ne_eq,Option.some.injEq];omega
end
structure Env where
 b:Nat
 g:Nat
 c:Nat
 ts:List T
theorem AL.gr {S:Nat->Prop} {w w':World} {g:Nat} {ts:List T} (h:AL w g ts) (hg:Gr S w w') (hS:¬S g):AL w' g ts:=
 ⟨Nat.lt_of_lt_of_le h.lt hg.size,fun j x hx=>by
  obtain ⟨h0,h1,h2,h3⟩:=h.cell j x hx
  exact ⟨(hg.cell h.lt hS).trans h0,(hg.cell h.lt hS).trans h1,(hg.cell h.lt hS).trans h2,(hg.cell h.lt hS).trans h3⟩⟩
def psC (E:Env) (l:List T) (o:Nat):Array Value:=#[.slice (some ⟨E.g,0,none⟩) E.ts.length E.c,.int .i64 ((E.ts.length - l.length:Nat):Int),.int .i64 (o:Int)]
theorem Cb (x:T) (r:List T):good (x :: r)=if x.1.k=0 then r=[]/\x.1.t=[]/\x.1.n=0 else good r:=rfl
structure PS (E:Env) (w:World) (l:List T) (o:Nat):Prop where
 blk:ag w E.b 43 (psC E l o)
 toks:AL w E.g E.ts
 ne:E.g≠E.b
 good:good l
 Nn:l <:+E.ts
 deep:o<=40
 len:E.ts.length<=8193
 nums:∀x∈E.ts,0<=x.1.n/\x.1.n<=9223372036854775807
section
variable {E : Env} {w w' : World} {l : List T} {o : Nat}
theorem PS.lt (h:PS E w l o):E.b < w.heap.size:=h.blk.lt
theorem PS.gr {S:Nat->Prop} (h:PS E w l o) (hg:Gr S w w') (h1:¬S E.b) (h2:¬S E.g):PS E w' l o:=
 ⟨hg.blk h.blk h1,h.toks.gr hg h2,h.ne,h.good,h.Nn,h.deep,h.len,h.nums⟩
theorem PS.below (h:PS E w l o) (hb:Below w.heap.size w w'):PS E w' l o:=h.gr (Gr.of_below hb (S:=fun _=>False)) id id
theorem PS.alloc (h:PS E w l o) (ob:Obj):PS E (w.alloc ob) l o:=h.gr ((Gr.refl w (S:=fun _=>False)).alloc ob) id id
theorem PS.drew (h:PS E w l o):PS E w.drew l o:=h.gr ((Gr.refl w (S:=fun _=>False)).drew) id id
theorem PS.setCell (h:PS E w l o) {p:Addr} (h1:p.block≠E.b) (h2:p.block≠E.g) (u:Value):PS E (w.setCell p u) l o:=
 h.gr ((Gr.refl w (S:=fun k=>k=p.block)).setCell (.inr rfl) u) (fun h=>h1 h.symm) (fun h=>h2 h.symm)
theorem PS.num {x:T} {r:List T} (h:PS E w (x :: r) o):0<=x.1.n/\x.1.n<=9223372036854775807:=h.nums x (h.Nn.subset (by simp))
theorem PS.cons (h:PS E w l o):∃x r,l=x :: r:=by
 cases l with
 |nil=>exact absurd h.good id
 |cons x r=>exact ⟨x,r,rfl⟩
theorem PS.here {x:T} {r:List T} (h:PS E w (x :: r) o):E.ts[E.ts.length - (r.length+1)]? =some x:=by
 obtain ⟨p,hp⟩:=h.Nn
 rw [<-hp]
 simp
theorem PS.taken {x:T} {r:List T} (h:PS E w (x :: r) o) (hx:x.1.k≠0) (v:Value) (hv:v= .int .i64 ((E.ts.length - r.length:Nat):Int)):PS E (w.setCell ⟨E.b,1,none⟩ v) r o:=by
 refine ⟨?_,h.toks.gr ((Gr.refl w (S:=fun k=>k=E.b)).setCell (.inr rfl) v) h.ne,h.ne,?_,(List.suffix_cons x r).trans h.Nn,h.deep,h.len,h.nums⟩
 ·have:=h.blk.ny 1 v
  subst hv
  exact this
 ·have:=h.good
  rw [Cb,if_neg hx] at this
  exact this
theorem PS.opened {o':Nat} (h:PS E w l o) (ho:o'<=40) (v:Value) (hv:v= .int .i64 (o':Int)):PS E (w.setCell ⟨E.b,2,none⟩ v) l o':=by
 refine ⟨?_,h.toks.gr ((Gr.refl w (S:=fun k=>k=E.b)).setCell (.inr rfl) v) h.ne,h.ne,h.good,h.Nn,ho,h.len,h.nums⟩
 have:=h.blk.ny 2 v
 subst hv
 exact this
theorem yw (x:T) (r:List T):mark (x :: r)=if x.1.k=2\/x.1.k=5 then x.1.t else []:=rfl
theorem yx (x:T) (r:List T):kind (x :: r)=x.1.k:=rfl
theorem iB {x:T} {r:List T} (h:good (x :: r)) (hm:mark (x :: r)≠[]):x.1.k≠0:=by
 intro h0
 rw [yw,h0] at hm
 simp at hm
end
theorem dM (t:Tr) (l:List T) (f:Tr->List T->R):bnd (.ok t l) f=f t l:=rfl
theorem dG (r:R) (f g:Tr->List T->R):bnd (bnd r f) g=bnd r fun t l=>bnd (f t l) g:=by cases r <;> rfl
theorem fC (l:List T) (f:T->List T->R) (g:Tr->List T->R):bnd (dI l f) g=dI l fun x r=>bnd (f x r) g:=by cases l <;> rfl
theorem sV (l:List T) (g:Tr->List T->R):bnd (refuse l) g=refuse l:=by cases l <;> rfl
theorem eD (p:Prop) [Decidable p] (a b:R) (g:Tr->List T->R):bnd (if p then a else b) g=if p then bnd a g else bnd b g:=by split <;> rfl
theorem eH (m:List UInt8) (l:List T) (f:T->List T->R) (g:Tr->List T->R):bnd (want m l f) g=want m l fun x r=>bnd (f x r) g:=by unfold want;rw [eD,fC,sV]
theorem jr (k:Int) (l:List T) (f:T->List T->R) (g:Tr->List T->R):bnd (fu k l f) g=fu k l fun x r=>bnd (f x r) g:=by unfold fu;rw [eD,fC,sV]
theorem mg (m:List UInt8) (l:List T) (o:Nat) (f:T->List T->R) (g:Tr->List T->R):bnd (enter m l o f) g=enter m l o fun x r=>bnd (f x r) g:=by
 unfold enter;rw [eH];congr 1;funext x r;rw [eD];rfl
theorem UR (r:R):bnd r R.ok=r:=by cases r <;> rfl
theorem aJ {S:Nat->Prop} {w w2:World} (h:Gr S w w2:=by repeat (with_reducible (first|assumption|exact Gr.refl _|exact Gr.of_below (by assumption)|refine Gr.alloc ?_ _|refine Gr.drew ?_|refine Gr.setCell ?_ (by first|exact .inr rfl|(left;simp;done)|(left;simp;omega)) _))):Gr S w w2:=h
theorem aO {E:Env} {w:World} {l:List T} {o:Nat} (h:PS E w l o:=by repeat (with_reducible (first|assumption|refine PS.alloc ?_ _|refine PS.drew ?_|refine PS.setCell ?_ (by first|assumption|(simp;omega)) (by first|assumption|(simp;omega)) _))):PS E w l o:=h
theorem Qf {l:List UInt8} {t:Tk} {n:Nat} (h:iF l=some (t,n)):t.k≠0/\0<=t.n/\t.n<=9223372036854775807:=by
 unfold iF at h
 split at h
 ·unfold uD at h
  split at h
  ·injection h with h;injection h with h1 h2;subst h1;exact ⟨by simp,by simp,by simp⟩
  ·split at h
   ·cases h
   ·injection h with h;injection h with h1 h2;subst h1;exact ⟨by simp,by simp,by simp⟩
 ·split at h
  ·unfold mP at h
   split at h
   ·cases h
   ·split at h
    ·cases h
    ·split at h
     ·next hd=>injection h with h;injection h with h1 h2;subst h1;exact ⟨by simp,by show (0:Int)<=((rD _:Nat):Int);omega,by show ((rD _:Nat):Int)<=_;omega⟩
     ·cases h
  ·split at h
   ·unfold qa at h
    cases hq:qL false [] 0 (l.drop 1) with
    |none=>rw [hq] at h;cases h
    |some x=>rw [hq] at h;injection h with h;injection h with h1 h2;subst h1;exact ⟨by simp,by simp,by simp⟩
   ·unfold Ay at h
    split at h
    ·cases h
    ·injection h with h;injection h with h1 h2;subst h1;exact ⟨by simp,by simp,by simp⟩
theorem IZ:∀(f k:Nat) (l:List UInt8),l.length < f->∀ts,qN f k l= .inr ts->good ts/\∀x∈ts,0<=x.1.n/\x.1.n<=9223372036854775807
 |0,_,_,h,_,_=>by omega
 |f+1,k,l,h,ts,e=>by
  by_cases hl:l=[]
  ·subst hl
   rw [uT] at e
   injection e with e
   subst e
   refine ⟨⟨rfl,rfl,rfl⟩,?_⟩
   intro x hx
   simp only [List.mem_singleton] at hx
   subst hx
   exact ⟨by simp,by simp⟩
  ·cases ho:iF l with
   |none=>rw [sO hl ho] at e;cases e
   |some x=>
    obtain ⟨t,n⟩:=x
    have h1:=Qf ho
    have h2:=Es ho
    have ih:=IZ f (k+n+fF false (l.drop n)) ((l.drop n).drop (fF false (l.drop n))) (by omega)
    rw [sP hl ho] at e
    generalize qN f (k+n+fF false (l.drop n)) ((l.drop n).drop (fF false (l.drop n)))=y at e ih
    cases y with
    |inl p=>cases e
    |inr us=>
     simp only [joinL] at e
     injection e with e
     subst e
     obtain ⟨g1,g2⟩:=ih us rfl
     refine ⟨?_,?_⟩
     ·show (if t.k=0 then _ else good us)
      rw [if_neg h1.1]
      exact g1
     ·intro x hx
      simp only [List.singleton_append,List.mem_cons] at hx
      rcases hx with rfl|hx
      ·exact h1.2
      ·exact g2 x hx
theorem yL {l:List UInt8} {ts:List (Tk × Nat)} (h:oH l=(ts,0,0)):good ts/\(∀x∈ts,0<=x.1.n/\x.1.n<=9223372036854775807)/\ts.length<=8193:=by
 have hc:=NL h
 unfold oH at h
 split at h
 ·simp at h
 ·unfold BZ at h
  have hb:=IZ (l.length+1) (fF false l) (l.drop (fF false l)) (by simp;omega)
  generalize qN (l.length+1) (fF false l) (l.drop (fF false l))=y at h hb
  cases y with
  |inl q=>simp [BX] at h
  |inr us=>
   have h1:=hb us rfl
   simp only [BX,Prod.mk.injEq] at h
   rw [<-h.1] at hc |-
   exact ⟨h1.1,h1.2,by omega⟩
theorem Ug {s:ByteArray} {k:Nat} (hk:k < s.size):
  (Sb s[k]=true/\fF false (s.data.toList.drop k)=1+fF false (s.data.toList.drop (k+1)))\/
  (Sb s[k]=false/\Aw (s.data.toList.drop k)=false/\fF false (s.data.toList.drop k)=0)\/
  (Sb s[k]=false/\∃h:k+1 < s.size,s[k]=47/\s[k+1]=47/\fF false (s.data.toList.drop k)=fF true (s.data.toList.drop k)):=by
 have hg:=BU hk
 cases hB:Sb s[k] with
 |true=>
  have hp:Aw (s.data.toList.drop k)=false:=by
   rw [drop_at hk]
   cases hd:s.data.toList.drop (k+1) with
   |nil=>rfl
   |cons a r=>
    have:s[k]≠47:=by rintro e;rw [e] at hB;exact absurd hB (by decide)
    simp [Aw,this]
  rw [hp,hB] at hg
  exact .inl ⟨rfl,by simpa using hg⟩
 |false=>
  cases hp:Aw (s.data.toList.drop k) with
  |false=>
   rw [hp,hB] at hg
   exact .inr (.inl ⟨rfl,rfl,by simpa using hg⟩)
  |true=>
   have hl1:k+1 < s.size:=by
    rw [drop_at hk] at hp
    rcases Nat.lt_or_ge (k+1) s.size with h|h
    ·exact h
    ·rw [List.drop_eq_nil_of_le (by simpa using h)] at hp;cases hp
   have h47:s[k]=47/\s[k+1]=47:=by
    rw [drop_at hk,drop_at hl1] at hp
    simpa [Aw] using hp
   refine .inr (.inr ⟨rfl,hl1,h47.1,h47.2,?_⟩)
   rw [hp] at hg
   rw [vE hk,h47.1]
   have:((47:UInt8) != 10)=true:=by decide
   rw [this]
   simpa using hg
theorem agr {c:UInt8} (h:Sb c=false):((c.toNat:Int) == 32)=false/\((c.toNat:Int) == 9)=false/\((c.toNat:Int) == 10)=false/\((c.toNat:Int) == 13)=false:=by
 simp [Sb] at h |-
 omega
theorem Qg (s:ByteArray) (p:Nat) (w:World) (hs:s.size<=maxLen) (hp:p<=s.size):
  Calls Tryz.prog 45 #[.string s,.int .i64 p] w fun e w'=>e= .returned (.int .i64 ((p+fF false (s.data.toList.drop p):Nat):Int))/\w=w':=by
 unfold maxLen at hs
 obtain ⟨E,hE⟩:=aS (p+fF false (s.data.toList.drop p))
 rw [hE]
 have HE:=af hE
 clear hE
 go_enter Tryz.func45,Tryz.ntmps45
 go_wp2
 go_loop [1] (fun i=>∃k:Nat,k<=s.size/\i= .int .i64 k/\k+fF false (s.data.toList.drop k)=E) (fun i=>s.size - (intOf i).toNat)
 case atStart=>exact ⟨p,hp,rfl,HE.out⟩
 case round=>
  obtain ⟨k,hk,rfl,hr⟩:=hrel
  by_cases hlt:k < s.size
  ·have hb0:0<=(s[k].toNat:Int)/\(s[k].toNat:Int)<=255:=by have:=s[k].toNat_lt;omega
   rcases Ug hlt with ⟨hB,hg⟩|⟨hB,hpr,hg⟩|⟨hB,hl1,e1,e2,hg⟩
   ·have HR:=af (show k+1+fF false (s.data.toList.drop (k+1))=E by omega)
    have hB':(s[k].toNat:Int)=32\/(s[k].toNat:Int)=9\/(s[k].toNat:Int)=10\/(s[k].toNat:Int)=13:=by simpa [Sb] using hB
    clear hr hg hB hb0
    rcases hB' with h|h|h|h
    all_goals
     go_wp2
     go_round
     case rel=>exact ⟨k+1,by omega,by go_num,HR.out⟩
     case measure=>simp [intOf];omega
   ·obtain ⟨n32,n9,n10,n13⟩:=agr hB
    have HR:=af (show k=E by omega)
    by_cases h47:s[k]=47
    ·have y1:((s[k].toNat:Int) != 47)=false:=by rw [h47];rfl
     by_cases hl1:k+1 < s.size
     ·have y2:((s[k+1].toNat:Int) != 47)=true:=by
       have h2:s[k+1]≠47:=by
        intro e
        rw [drop_at hlt,drop_at hl1,h47,e] at hpr
        exact absurd hpr (by simp [Aw])
       simpa using lX (d:=47) h2
      clear hr hg hB hpr hb0 h47
      go_wp2
      go_ret
      exact ⟨rz (by rw [<-HR.out]),rfl⟩
     ·have ang:(s.size:Int)<=(k:Int)+1:=by omega
      clear hr hg hB hpr hb0 h47
      go_wp2
      go_ret
      exact ⟨rz (by rw [<-HR.out]),rfl⟩
    ·have y1:((s[k].toNat:Int) != 47)=true:=by simpa using lX (d:=47) h47
     clear hr hg hB hpr hb0 h47
     go_wp2
     go_ret
     exact ⟨rz (by rw [<-HR.out]),rfl⟩
   ·obtain ⟨n32,n9,n10,n13⟩:=agr hB
    have y1:((s[k].toNat:Int) != 47)=false:=by rw [e1];rfl
    have y2:((s[k+1].toNat:Int) != 47)=false:=by rw [e2];rfl
    have HK:=af (show k+fF true (s.data.toList.drop k)=E by omega)
    have E1:=af e1
    have dl:decide ((s.size:Int)<=(k:Int)+1)=false:=by simp;omega
    clear hr hg hB hb0 e1 e2
    go_wp2
    go_loop [1] (fun i=>∃j:Nat,k<=j/\j<=s.size/\i= .int .i64 j/\j+fF true (s.data.toList.drop j)=E) (fun i=>s.size - (intOf i).toNat)
    case atStart=>exact ⟨k,Nat.le_refl _,by omega,rfl,HK.out⟩
    case round=>
     obtain ⟨j,hkj,hj,rfl,hr⟩:=hrel
     by_cases hjl:j < s.size
     ·have hc0:0<=(s[j].toNat:Int)/\(s[j].toNat:Int)<=255:=by have:=s[j].toNat_lt;omega
      by_cases h10:s[j]=10
      ·have hne:k < j:=by
        rcases Nat.lt_or_ge k j with h|h
        ·exact h
        ·obtain rfl:j=k:=by omega
         have:=E1.out
         rw [this] at h10;exact absurd h10 (by decide)
       have y10:((s[j].toNat:Int) != 10)=false:=by rw [h10];rfl
       have hG:j+fF false (s.data.toList.drop j)=E:=by
        rw [vE hjl,h10] at hr
        rw [BU hjl,h10]
        have:Aw (s.data.toList.drop j)=false:=by
         rw [drop_at hjl,h10]
         cases s.data.toList.drop (j+1) <;> rfl
        rw [this]
        simp [Sb] at hr |-
        omega
       have HG:=af hG
       clear hr h10 hc0 hG HK
       go_wp2
       go_round
       case rel=>exact ⟨j,by omega,rfl,HG.out⟩
       case measure=>simp [intOf];omega
      ·have y10:((s[j].toNat:Int) != 10)=true:=by simpa using lX (d:=10) h10
       have hG:j+1+fF true (s.data.toList.drop (j+1))=E:=by
        rw [vE hjl] at hr
        have:(s[j] != 10)=true:=by simpa using h10
        rw [this] at hr
        omega
       have HG:=af hG
       clear hr h10 hc0 hG HK
       go_wp2
       go_round
       case rel=>exact ⟨j+1,by omega,by omega,by go_num,HG.out⟩
       case measure=>simp [intOf];omega
     ·obtain rfl:j=s.size:=by omega
      have HG:=af (show s.size+fF false (s.data.toList.drop s.size)=E by rw [I9] at hr |-;exact hr)
      clear hr HK
      go_wp2
      go_round
      case rel=>exact ⟨s.size,Nat.le_refl _,rfl,HG.out⟩
      case measure=>simp [intOf];omega
  ·obtain rfl:k=s.size:=by omega
   rw [I9] at hr
   have HR:=af hr
   clear hr
   go_wp2
   go_ret
   exact ⟨rz (by rw [<-HR.out];simp),rfl⟩
theorem KP (s:ByteArray) (k:Nat):(s.extract k (k+2)).toList=(s.data.toList.drop k).take 2:=by
 rw [ByteArray.toList_eq,ext_list];congr 1;omega
theorem ac3 {s:ByteArray} {k:Nat} (h:doubles.contains ((s.data.toList.drop k).take 2)=true):k+1 < s.size:=by
 rcases Nat.lt_or_ge (k+1) s.size with h1|h1
 ·exact h1
 ·have:((s.data.toList.drop k).take 2).length<=1:=by simp;omega
  match (s.data.toList.drop k).take 2,this,h with
  |[],_,h=>exact absurd h (by decide)
  |[a],_,h=>simp [doubles] at h
theorem Qh (s:ByteArray) (k:Nat) (w:World) (hs:s.size<=8192) (hk:k < s.size) (h:doubles.contains ((s.data.toList.drop k).take 2)=false) (hl:qb.contains s[k]=false):
  Calls Tryz.prog 78 #[.string s,.int .i64 k] w fun e w'=>e= .returned (.string (bs []))/\w=w':=by
 rw [<-KP] at h
 obtain ⟨d0,d1,d2,d3,d4,d5,d6⟩:=Ja h
 clear h
 obtain ⟨e0,e1,e2,e3,e4,e5,e6,e7,e8,e9,e10,e11,e12,e13,e14,e15,e16,e17,e18,e19⟩:=UI hl
 clear hl
 by_cases hz:k+1 < s.size
 all_goals
  go_enter Tryz.func78,Tryz.ntmps78
  go_wp2
  go_ret
  exact ⟨rfl,rfl⟩
theorem Uh (s:ByteArray) (k:Nat) (w:World) (hs:s.size<=8192) (hk:k < s.size) (h:doubles.contains ((s.data.toList.drop k).take 2)=false) (hl:qb.contains s[k]=true):
  Calls Tryz.prog 78 #[.string s,.int .i64 k] w fun e w'=>e= .returned (.string (s.extract k (k+1)))/\w=w':=by
 rw [<-KP] at h
 obtain ⟨d0,d1,d2,d3,d4,d5,d6⟩:=Ja h
 clear h
 rcases QG hl with h|h|h|h|h|h|h|h|h|h|h|h|h|h|h|h|h|h|h|h
 all_goals
  clear hl
  by_cases hz:k+1 < s.size
  all_goals
   go_enter Tryz.func78,Tryz.ntmps78
   go_wp2
   go_ret
   exact ⟨rfl,rfl⟩
theorem Ui (s:ByteArray) (k:Nat) (w:World) (hs:s.size<=8192) (h:doubles.contains ((s.data.toList.drop k).take 2)=true):
  Calls Tryz.prog 78 #[.string s,.int .i64 k] w fun e w'=>e= .returned (.string (s.extract k (k+2)))/\w=w':=by
 have hz:=ac3 h
 rw [<-KP] at h
 rcases QF h with hd|hd|hd|hd|hd|hd|hd
 all_goals
  clear h
  go_enter Tryz.func78,Tryz.ntmps78
  go_wp2
  go_ret
  exact ⟨rfl,rfl⟩
theorem Qi (s:ByteArray) (k:Nat) (w:World) (hs:s.size<=8192) (hk:k < s.size):
  Calls Tryz.prog 78 #[.string s,.int .i64 k] w fun e w'=>e= .returned (.string (bs ((s.data.toList.drop k).take (wF (s.data.toList.drop k)))))/\w=w':=by
 unfold wF
 rw [fV hk]
 cases h:doubles.contains ((s.data.toList.drop k).take 2)
 ·cases hl:qb.contains s[k]
  ·exact Qh s k w hs hk h hl
  ·have:=Uh s k w hs hk h hl
   rw [AP] at this
   exact this
 ·have:=Ui s k w hs h
  rw [AP] at this
  exact this
def XX (p:Nat):Option (Tk × Nat)->Value
 |none=>.tuple #[wM,.bool false]
 |some (t,_)=>.tuple #[Gx t p,.bool true]
theorem take_at {s:ByteArray} {p m:Nat} (h:p+m < s.size):(s.data.toList.drop p).take (m+1)=(s.data.toList.drop p).take m ++ [s[p+m]]:=by
 have hl:m < (s.data.toList.drop p).length:=by simp;omega
 rw [List.take_succ_eq_append_getElem hl]
 congr 2
 simp
 rfl
theorem Uj (l:List UInt8) (c:UInt8):rD (l ++ [c])=rD l*10+(c.toNat - 48):=by
 unfold rD;rw [List.foldl_append];rfl
theorem Uk (l:List UInt8) (m n:Nat) (h:m<=n):rD (l.take m)<=rD (l.take n):=by
 have e:l.take n=l.take m ++ (l.drop m).take (n - m):=by
  rw [show n=m+(n - m) by omega,List.take_add]
  simp
 rw [e]
 unfold rD
 rw [List.foldl_append]
 exact K7 _ _
theorem M9 (s:ByteArray) (p:Nat) (w:World) (hs:s.size<=8192) (hp:p < s.size) (hd:nA s[p]=true):
  Calls Tryz.prog 76 #[.string s,.int .i64 p] w fun e w'=>e= .returned (XX p (mP (s.data.toList.drop p)))/\Below w.heap.size w w':=by
 have hrun:=pW nA (s.data.toList.drop p)
 simp only [List.length_drop,Array.length_toList,ByteArray.size_data] at hrun
 obtain ⟨N,hN⟩:=aS (iQ nA (s.data.toList.drop p))
 obtain ⟨o,ho⟩:=aS (mP (s.data.toList.drop p))
 have ho2:=ho
 unfold mP at ho2
 rw [hN] at ho2 hrun
 rw [ho]
 have hN0:0 < N:=by
  have:=uS (p:=nA) hp hd
  omega
 have HN:=af hN
 have Gu:=af ho2
 clear hN ho ho2 hd
 go_enter Tryz.func76,Tryz.ntmps76
 go_wp2
 go_loop [6,7] (fun i v=>∃m:Nat,p+m<=s.size/\i= .int .i64 ((p+m:Nat):Int)/\m+iQ nA (s.data.toList.drop (p+m))=N/\v= .int .i64 (rD ((s.data.toList.drop p).take m))/\rD ((s.data.toList.drop p).take m) < 9223372036854775808) (fun i _=>s.size - (intOf i).toNat)
 case atStart=>exact ⟨0,by omega,by go_num,by rw [Nat.add_zero];have:=HN.out;omega,rfl,by rw [List.take_zero];decide⟩
 case round=>
  obtain ⟨m,hm,rfl,hr,rfl,hv⟩:=hrel
  obtain ⟨V,hV⟩:=aS (rD ((s.data.toList.drop p).take m))
  rw [hV] at hv |-
  obtain ⟨j,hj⟩:=aS (p+m)
  rw [hj] at hr hm |-
  have j0:(0:Int)<=(j:Int):=by omega
  have jm:(j:Int)<=8192:=by omega
  have p0:(0:Int)<=(p:Int):=by omega
  by_cases hmore:j < s.size/\sU nA (s.data.toList.drop j)=true
  ·obtain ⟨hjs,hD⟩:=hmore
   rw [fV hjs] at hD
   have hy:=uS (p:=nA) hjs hD
   have hb:48<=(s[j].toNat:Int)/\(s[j].toNat:Int)<=57:=by simpa [nA] using hD
   obtain ⟨b0,b1⟩:=hb
   have j1:(j:Int) < (s.size:Int):=by omega
   have hsn:rD ((s.data.toList.drop p).take (m+1))=V*10+(s[j].toNat - 48):=by
    rw [take_at (by omega),Uj,hV]
    congr 2
    simp only [hj]
   obtain ⟨d,hdd⟩:∃d:Nat,(s[j].toNat:Int) - 48=d:=⟨s[j].toNat - 48,by omega⟩
   have d9:(d:Int)<=9:=by omega
   have hw1:IntKind.u8.wrap ((s[j].toNat:Int) - 48)=(d:Int):=by rw [IntKind.wrap_u8];omega
   have hdn:s[j].toNat - 48=d:=by omega
   rw [hdn] at hsn
   have HD:=af hD
   have HSN:=af hsn
   have HJ:=af hj
   by_cases hbig:(9223372036854775807 - (d:Int)) / 10 < (V:Int)
   ·have hno:o=none:=by
     rw [<-Gu.out]
     have h1:=Uk (s.data.toList.drop p) (m+1) N (by omega)
     rw [hsn] at h1
     have h2:¬rD ((s.data.toList.drop p).take N) < 9223372036854775808:=by omega
     rw [if_neg h2]
     simp
    subst hno
    clear hD hr hy hV hj hsn hdn b0 b1
    go_wp2_with (first|(go_at_call 74;refine (iA _ _).mono ?_;rw [HD.out];rintro e w' ⟨rfl,rfl⟩))
    exact bodyPost_ret (v:=.tuple #[wM,.bool false]) (by simp [results,Tryz.results76,wM,go_sem]) rfl ⟨rfl,iW _ _ _⟩
   ·have hv2:V*10+d < 9223372036854775808:=by omega
    have hrn:m+1+iQ nA (s.data.toList.drop (j+1))=N:=by omega
    have HRN:=af hrn
    clear hD hr hy hV hj hsn hdn b0 b1 hrn
    go_wp2_with (first|(go_at_call 74;refine (iA _ _).mono ?_;rw [HD.out];rintro e w' ⟨rfl,rfl⟩))
    go_round
    case rel=>exact ⟨m+1,by have:=HJ.out;omega,by have:=HJ.out;go_num,by have:=HJ.out;rw [show p+(m+1)=j+1 by omega];exact HRN.out,by rw [HSN.out];go_num,by rw [HSN.out];exact hv2⟩
    case measure=>simp [intOf];omega
  ·have hz:iQ nA (s.data.toList.drop j)=0:=by
    rcases Nat.lt_or_ge j s.size with h|h
    ·have h2:nA s[j]=false:=by
      cases hx:nA s[j]
      ·rfl
      ·exact absurd ⟨h,by rw [fV h];exact hx⟩ hmore
     exact D7 h h2
    ·rw [List.drop_eq_nil_of_le (by simpa using h)];rfl
   obtain rfl:m=N:=by omega
   have ho2:=Gu.out
   rw [hV,List.drop_drop,hj,if_pos hv,fV hp] at ho2
   have hdig:∀h:j < s.size,nA s[j]=false:=by
    intro h
    cases hx:nA s[j]
    ·rfl
    ·exact absurd ⟨h,by rw [fV h];exact hx⟩ hmore
   have hpj:(p:Int)+(m:Int)=(j:Int):=by omega
   have HV:=af hV
   have HJ:=af hj
   clear hr hz hV hmore Gu
   by_cases hA:1 < m/\s[p]=48
   ·have hno:o=none:=by
     rw [if_pos (by simp [hA.1,hA.2])] at ho2
     exact ho2.symm
    subst hno
    have a1:(p:Int)+1 < (j:Int):=by have:=hA.1;omega
    have a2:((s[p].toNat:Int) == 48)=true:=by rw [hA.2];rfl
    clear ho2 hA hj
    by_cases hjs:j < s.size
    ·have HD:=af (hdig hjs)
     clear hdig
     go_wp2_with (first|(go_at_call 74;refine (iA _ _).mono ?_;rw [HD.out];rintro e w' ⟨rfl,rfl⟩))
     exact bodyPost_ret (v:=.tuple #[wM,.bool false]) (by simp [results,Tryz.results76,wM,go_sem]) rfl ⟨rfl,iW _ _ _⟩
    ·obtain rfl:j=s.size:=by omega
     clear hdig
     go_wp2
     exact bodyPost_ret (v:=.tuple #[wM,.bool false]) (by simp [results,Tryz.results76,wM,go_sem]) rfl ⟨rfl,iW _ _ _⟩
   ·rw [if_neg (by simpa using hA)] at ho2
    by_cases hjs:j < s.size
    ·have HD:=af (hdig hjs)
     rw [fV hjs] at ho2
     cases hl:yZ s[j] with
     |true=>
      rw [hl] at ho2
      have hno:o=none:=by simpa using ho2.symm
      subst hno
      have HL:=af hl
      clear ho2 hl hdig hj
      by_cases a1:1 < m
      ·have a3:(p:Int)+1 < (j:Int):=by omega
       have a2:((s[p].toNat:Int) == 48)=false:=by simpa using lX (d:=48) (fun e=>hA ⟨a1,e⟩)
       clear hA
       go_wp2_with (first|(go_at_call 74;refine (iA _ _).mono ?_;rw [HD.out];rintro e w' ⟨rfl,rfl⟩)|(go_at_call 73;refine (gQ _ _).mono ?_;rw [HL.out];rintro e w' ⟨rfl,rfl⟩))
       exact bodyPost_ret (v:=.tuple #[wM,.bool false]) (by simp [results,Tryz.results76,wM,go_sem]) rfl ⟨rfl,iW _ _ _⟩
      ·have a3:¬(p:Int)+1 < (j:Int):=by omega
       clear hA
       go_wp2_with (first|(go_at_call 74;refine (iA _ _).mono ?_;rw [HD.out];rintro e w' ⟨rfl,rfl⟩)|(go_at_call 73;refine (gQ _ _).mono ?_;rw [HL.out];rintro e w' ⟨rfl,rfl⟩))
       exact bodyPost_ret (v:=.tuple #[wM,.bool false]) (by simp [results,Tryz.results76,wM,go_sem]) rfl ⟨rfl,iW _ _ _⟩
     |false=>
      rw [hl] at ho2
      have hso:o=some (⟨3,(s.data.toList.drop p).take m,(V:Int)⟩,m):=by simpa using ho2.symm
      subst hso
      have HL:=af hl
      have HX:=af (AP s p m)
      clear ho2 hl hdig hj
      by_cases a1:1 < m
      ·have a3:(p:Int)+1 < (j:Int):=by omega
       have a2:((s[p].toNat:Int) == 48)=false:=by simpa using lX (d:=48) (fun e=>hA ⟨a1,e⟩)
       clear hA
       go_wp2_with (first|(go_at_call 74;refine (iA _ _).mono ?_;rw [HD.out];rintro e w' ⟨rfl,rfl⟩)|(go_at_call 73;refine (gQ _ _).mono ?_;rw [HL.out];rintro e w' ⟨rfl,rfl⟩))
       exact bodyPost_ret (v:=.tuple #[Gx ⟨3,(s.data.toList.drop p).take m,(V:Int)⟩ p,.bool true]) (by simp [results,Tryz.results76,Gx,go_sem,<-HX.out,HJ.out]) rfl ⟨rfl,iW _ _ _⟩
      ·have a3:¬(p:Int)+1 < (j:Int):=by omega
       clear hA
       go_wp2_with (first|(go_at_call 74;refine (iA _ _).mono ?_;rw [HD.out];rintro e w' ⟨rfl,rfl⟩)|(go_at_call 73;refine (gQ _ _).mono ?_;rw [HL.out];rintro e w' ⟨rfl,rfl⟩))
       exact bodyPost_ret (v:=.tuple #[Gx ⟨3,(s.data.toList.drop p).take m,(V:Int)⟩ p,.bool true]) (by simp [results,Tryz.results76,Gx,go_sem,<-HX.out,HJ.out]) rfl ⟨rfl,iW _ _ _⟩
    ·obtain rfl:j=s.size:=by omega
     rw [List.drop_eq_nil_of_le (by simp)] at ho2
     have hso:o=some (⟨3,(s.data.toList.drop p).take m,(V:Int)⟩,m):=by simpa [sU] using ho2.symm
     subst hso
     have HX:=af (AP s p m)
     clear ho2 hdig hj
     by_cases a1:1 < m
     ·have a3:(p:Int)+1 < (s.size:Int):=by omega
      have a2:((s[p].toNat:Int) == 48)=false:=by simpa using lX (d:=48) (fun e=>hA ⟨a1,e⟩)
      clear hA
      go_wp2
      exact bodyPost_ret (v:=.tuple #[Gx ⟨3,(s.data.toList.drop p).take m,(V:Int)⟩ p,.bool true]) (by simp [results,Tryz.results76,Gx,go_sem,<-HX.out,HJ.out]) rfl ⟨rfl,iW _ _ _⟩
     ·have a3:¬(p:Int)+1 < (s.size:Int):=by omega
      clear hA
      go_wp2
      exact bodyPost_ret (v:=.tuple #[Gx ⟨3,(s.data.toList.drop p).take m,(V:Int)⟩ p,.bool true]) (by simp [results,Tryz.results76,Gx,go_sem,<-HX.out,HJ.out]) rfl ⟨rfl,iW _ _ _⟩
def rqV (p:Nat):Option (Tk × Nat)->Value
 |none=>.tuple #[wM,.int .i64 0,.bool false]
 |some (t,n)=>.tuple #[Gx t p,.int .i64 ((p+n:Nat):Int),.bool true]
theorem aiw {t:ByteArray} {k:Nat} (hk:k < t.size) (acc:List UInt8) (i:Nat):qL false acc i (t.data.toList.drop k)=if t[k]=92 then qL true acc (i+1) (t.data.toList.drop (k+1)) else if t[k]=34 then (if 100 < acc.length then none else some (acc,i+2)) else if t[k] < 32\/126 < t[k] then none else qL false (acc ++ [t[k]]) (i+1) (t.data.toList.drop (k+1)):=by rw [drop_at hk];rfl
theorem ags {t:ByteArray} {k:Nat} (hk:k < t.size) (acc:List UInt8) (i:Nat):qL true acc i (t.data.toList.drop k)=if pY t[k]=0 then none else qL false (acc ++ [pY t[k]]) (i+1) (t.data.toList.drop (k+1)):=by rw [drop_at hk];rfl
set_option maxHeartbeats 8000000 in
theorem Na (s:ByteArray) (p:Nat) (w:World) (hs:s.size<=8192) (hp:p < s.size):
  Calls Tryz.prog 77 #[.string s,.int .i64 p] w fun e w'=>e= .returned (rqV p (qa (s.data.toList.drop p)))/\Below w.heap.size w w':=by
 obtain ⟨i0,hi0,hz0,hz1,hz2⟩:=info_parts H6
 unfold qa
 rw [List.drop_drop]
 obtain ⟨Q,hQ⟩:=aS (qL false [] 0 (s.data.toList.drop (p+1)))
 rw [hQ]
 have fZ:=af hQ
 clear hQ
 go_enter Tryz.func77,Tryz.ntmps77
 go_wp2
 go_loopw [7,8] (fun v k wr=>∃(acc:List UInt8) (i:Nat),p+1+i<=s.size/\k= .int .i64 ((p+1+i:Nat):Int)/\acc.length<=i/\wr.ownsRow (w.heap.size+1) 5 1 v acc.length (acc.map ze)/\Below (w.alloc box).heap.size (w.alloc box) wr/\qL false acc i (s.data.toList.drop (p+1+i))=Q) (fun _ k _=>s.size - (intOf k).toNat)
 case atStart=>exact ⟨[],0,by omega,by go_num,Nat.le_refl _,World.ownsRow_nil _ _ _ 1,Below.refl _ _,fZ.out⟩
 case round=>
  obtain ⟨acc,i,hi,rfl,hai,hown,hB,hq⟩:=hrel
  obtain ⟨wo,rfl⟩:∃wo:World,wo=wr:=⟨_,rfl⟩
  obtain ⟨j,hj⟩:=aS (p+1+i)
  rw [hj] at hi hq |-
  have j0:(0:Int)<=(j:Int):=by omega
  have j2:(j:Int)<=(s.size:Int):=by omega
  obtain ⟨AO,cO,rfl⟩:=kM hown
  obtain ⟨hx1,hf1,hz1',hB1⟩:=kQ hB
  have c0:=hx1 0 _ rfl
  have c1:=hx1 1 _ rfl
  have c2:=hx1 2 _ rfl
  have c3:=hx1 3 _ rfl
  clear hx1
  have HO:=af hown
  have HB:=af hB
  have al:acc.length<=8192:=by omega
  have HJ:=af hj
  have pj:(p:Int)+1<=(j:Int):=by omega
  clear hown hB hj fZ
  by_cases hlt:j < s.size
  ·have j1:(j:Int) < (s.size:Int):=by omega
   have hb0:0<=(s[j].toNat:Int)/\(s[j].toNat:Int)<=255:=by have:=s[j].toNat_lt;omega
   obtain ⟨hb0,hb1⟩:=hb0
   rw [aiw hlt] at hq
   by_cases D9:s[j]=92
   ·rw [if_pos D9] at hq
    have y34:((s[j].toNat:Int) != 34)=true:=by rw [D9];rfl
    have y92:((s[j].toNat:Int) == 92)=true:=by rw [D9];rfl
    have r1:¬(s[j].toNat:Int) < 32:=by rw [D9];decide
    have r2:¬126 < (s[j].toNat:Int):=by rw [D9];decide
    by_cases hl2:j+1 < s.size
    ·rw [ags hl2] at hq
     have k1:(j:Int)+1 < (s.size:Int):=by omega
     have hb2:0<=(s[j+1].toNat:Int)/\(s[j+1].toNat:Int)<=255:=by have:=s[j+1].toNat_lt;omega
     obtain ⟨hb2,hb3⟩:=hb2
     by_cases m1:s[j+1]=110
     ·have hm:pY s[j+1]=10:=by rw [m1];rfl
      rw [hm,if_neg (by decide)] at hq
      have HQ:=af hq
      have y1:((s[j+1].toNat:Int) == 110)=true:=by rw [m1];rfl
      clear hq D9 m1 hm
      go_wp2_with (at_builtin;refine fe _ rfl (.tmp 53) (.tmp 55) _ rfl (w.heap.size+1) 5 i0 _ 1 1 Tryz.underlying79 hi0 hz0 hz1 hz2 rfl (by omega) (.slice AO acc.length cO) acc.length _ rfl (HO.out.alloc _) (wo.heap.size+1) (some ⟨wo.heap.size,0,none⟩) 1 1 [.int .u8 10] rfl ⟨rfl,fun _=>⟨_,rfl,by simp,World.news_of_block (cs:=#[.int .u8 10]) (t:=5) (fr:=(0,0)) (heap_alloc_new wo _)⟩⟩ (by simp [Value.oneCell']) (by simp only [maxLen];omega) (by omega) (by simp;omega) ?_;intro v' w2 hown2 hg2 xw)
      have Gu:=af hown2
      have hlv:=fun q (hq:(Value.slice AO acc.length cO).ownBlock=some q)=>(HO.out.lt q hq).1
      have hB2:Below (w.alloc box).heap.size (w.alloc box) w2:=(HB.out.alloc (by simp;omega) _).grown hg2 (by simp;omega) (by simpa using hlv)
      clear hown2 hg2 xw hlv
      go_roundw
      case rel=>exact ⟨acc ++ [10],i+2,by have:=HJ.out;omega,by have:=HJ.out;go_num,by simp;omega,by rw [List.length_append,List.map_append];exact Gu.out,hB2,by have:=HJ.out;rw [show p+1+(i+2)=j+2 by omega];exact HQ.out⟩
      case measure=>simp [intOf];omega
     have f1:((s[j+1].toNat:Int) == 110)=false:=by simpa using lX (d:=110) m1
     by_cases m2:s[j+1]=34
     ·have hm:pY s[j+1]=s[j+1]:=by rw [m2];rfl
      rw [hm,if_neg (by rw [m2];decide)] at hq
      have HQ:=af hq
      have y1:((s[j+1].toNat:Int) == 34)=true:=by rw [m2];rfl
      clear hq D9 m1 m2 hm
      go_wp2_with (at_builtin;refine fe _ rfl (.tmp 53) (.tmp 55) _ rfl (w.heap.size+1) 5 i0 _ 1 1 Tryz.underlying79 hi0 hz0 hz1 hz2 rfl (by omega) (.slice AO acc.length cO) acc.length _ rfl (HO.out.alloc _) (wo.heap.size+1) (some ⟨wo.heap.size,0,none⟩) 1 1 [.int .u8 s[j+1].toNat] rfl ⟨rfl,fun _=>⟨_,rfl,by simp,World.news_of_block (cs:=#[.int .u8 s[j+1].toNat]) (t:=5) (fr:=(0,0)) (heap_alloc_new wo _)⟩⟩ (by simp [Value.oneCell']) (by simp only [maxLen];omega) (by omega) (by simp;omega) ?_;intro v' w2 hown2 hg2 xw)
      have Gu:=af hown2
      have hlv:=fun q (hq:(Value.slice AO acc.length cO).ownBlock=some q)=>(HO.out.lt q hq).1
      have hB2:Below (w.alloc box).heap.size (w.alloc box) w2:=(HB.out.alloc (by simp;omega) _).grown hg2 (by simp;omega) (by simpa using hlv)
      clear hown2 hg2 xw hlv
      go_roundw
      case rel=>exact ⟨acc ++ [s[j+1]],i+2,by have:=HJ.out;omega,by have:=HJ.out;go_num,by simp;omega,by rw [List.length_append,List.map_append];exact Gu.out,hB2,by have:=HJ.out;rw [show p+1+(i+2)=j+2 by omega];exact HQ.out⟩
      case measure=>simp [intOf];omega
     have f2:((s[j+1].toNat:Int) == 34)=false:=by simpa using lX (d:=34) m2
     by_cases m3:s[j+1]=92
     ·have hm:pY s[j+1]=s[j+1]:=by rw [m3];rfl
      rw [hm,if_neg (by rw [m3];decide)] at hq
      have HQ:=af hq
      have y1:((s[j+1].toNat:Int) == 92)=true:=by rw [m3];rfl
      clear hq D9 m1 m2 m3 hm
      go_wp2_with (at_builtin;refine fe _ rfl (.tmp 53) (.tmp 55) _ rfl (w.heap.size+1) 5 i0 _ 1 1 Tryz.underlying79 hi0 hz0 hz1 hz2 rfl (by omega) (.slice AO acc.length cO) acc.length _ rfl (HO.out.alloc _) (wo.heap.size+1) (some ⟨wo.heap.size,0,none⟩) 1 1 [.int .u8 s[j+1].toNat] rfl ⟨rfl,fun _=>⟨_,rfl,by simp,World.news_of_block (cs:=#[.int .u8 s[j+1].toNat]) (t:=5) (fr:=(0,0)) (heap_alloc_new wo _)⟩⟩ (by simp [Value.oneCell']) (by simp only [maxLen];omega) (by omega) (by simp;omega) ?_;intro v' w2 hown2 hg2 xw)
      have Gu:=af hown2
      have hlv:=fun q (hq:(Value.slice AO acc.length cO).ownBlock=some q)=>(HO.out.lt q hq).1
      have hB2:Below (w.alloc box).heap.size (w.alloc box) w2:=(HB.out.alloc (by simp;omega) _).grown hg2 (by simp;omega) (by simpa using hlv)
      clear hown2 hg2 xw hlv
      go_roundw
      case rel=>exact ⟨acc ++ [s[j+1]],i+2,by have:=HJ.out;omega,by have:=HJ.out;go_num,by simp;omega,by rw [List.length_append,List.map_append];exact Gu.out,hB2,by have:=HJ.out;rw [show p+1+(i+2)=j+2 by omega];exact HQ.out⟩
      case measure=>simp [intOf];omega
     have f3:((s[j+1].toNat:Int) == 92)=false:=by simpa using lX (d:=92) m3
     have hm:pY s[j+1]=0:=by unfold pY;rw [if_neg m1,if_neg m2,if_neg m3]
     rw [hm,if_pos rfl] at hq
     have HQ:=af hq
     clear hq D9 m1 m2 m3 hm
     go_wp2
     exact bodyPost_ret (v:=.tuple #[wM,.int .i64 0,.bool false]) (by simp [results,Tryz.results77,wM,go_sem,c0,c1,c2,c3]) rfl ⟨by rw [<-HQ.out];rfl,bY hB1 (Nat.le_refl _) _ _ _ _⟩
    ·rw [List.drop_eq_nil_of_le (by simp;omega)] at hq
     have k1:(s.size:Int)<=(j:Int)+1:=by omega
     have HQ:=af hq
     clear hq D9
     go_wp2
     exact bodyPost_ret (v:=.tuple #[wM,.int .i64 0,.bool false]) (by simp [results,Tryz.results77,wM,go_sem,c0,c1,c2,c3]) rfl ⟨by rw [<-HQ.out];rfl,bY hB1 (Nat.le_refl _) _ _ _ _⟩
   rw [if_neg D9] at hq
   have f92:((s[j].toNat:Int) == 92)=false:=by simpa using lX (d:=92) D9
   by_cases KU:s[j]=34
   ·rw [if_pos KU] at hq
    have y34:((s[j].toNat:Int) != 34)=false:=by rw [KU];rfl
    have k1:decide ((s.size:Int)<=(j:Int))=false:=by simp;omega
    by_cases hl:100 < acc.length
    ·rw [if_pos hl] at hq
     have HQ:=af hq
     have hl':100 < (acc.length:Int):=by omega
     clear hq D9 KU
     go_wp2
     exact bodyPost_ret (v:=.tuple #[wM,.int .i64 0,.bool false]) (by simp [results,Tryz.results77,wM,go_sem,c0,c1,c2,c3]) rfl ⟨by rw [<-HQ.out];rfl,bY hB1 (Nat.le_refl _) _ _ _ _⟩
    ·rw [if_neg hl] at hq
     have HQ:=af hq
     have hcv:=En HO.out
     clear hq D9 KU
     go_wp2
     exact bodyPost_ret (v:=.tuple #[Gx ⟨4,acc,0⟩ p,.int .i64 ((j:Int)+1),.bool true]) (by simp [results,Tryz.results77,Gx,go_sem,c0,c1,c2,c3]) rfl ⟨by rw [<-HQ.out];exact congrArg Ending.returned (show Value.tuple #[Gx ⟨4,acc,0⟩ p,.int .i64 ((j:Int)+1),.bool true]=Value.tuple #[Gx ⟨4,acc,0⟩ p,.int .i64 ((p+(i+2):Nat):Int),.bool true] by have:=HJ.out;rw [show (j:Int)+1=((p+(i+2):Nat):Int) by omega]),bY hB1 (Nat.le_refl _) _ _ _ _⟩
   rw [if_neg KU] at hq
   have y34:((s[j].toNat:Int) != 34)=true:=by simpa using lX (d:=34) KU
   by_cases hr:s[j] < 32\/126 < s[j]
   ·rw [if_pos hr] at hq
    have HQ:=af hq
    have hr':(s[j].toNat:Int) < 32\/126 < (s[j].toNat:Int):=by
     rcases hr with h|h
     ·have:=UInt8.lt_iff_toNat_lt.1 h;simp at this;omega
     ·have:=UInt8.lt_iff_toNat_lt.1 h;simp at this;omega
    clear hq D9 KU hr
    rcases hr' with hr|hr
    ·go_wp2
     exact bodyPost_ret (v:=.tuple #[wM,.int .i64 0,.bool false]) (by simp [results,Tryz.results77,wM,go_sem,c0,c1,c2,c3]) rfl ⟨by rw [<-HQ.out];rfl,bY hB1 (Nat.le_refl _) _ _ _ _⟩
    ·have r1:¬(s[j].toNat:Int) < 32:=by omega
     go_wp2
     exact bodyPost_ret (v:=.tuple #[wM,.int .i64 0,.bool false]) (by simp [results,Tryz.results77,wM,go_sem,c0,c1,c2,c3]) rfl ⟨by rw [<-HQ.out];rfl,bY hB1 (Nat.le_refl _) _ _ _ _⟩
   ·rw [if_neg hr] at hq
    have r1:¬(s[j].toNat:Int) < 32:=by intro h;exact hr (.inl (UInt8.lt_iff_toNat_lt.2 (by simp;omega)))
    have r2:¬126 < (s[j].toNat:Int):=by intro h;exact hr (.inr (UInt8.lt_iff_toNat_lt.2 (by simp;omega)))
    have HQ:=af hq
    clear hq D9 KU hr
    go_wp2_with (at_builtin;refine fe _ rfl (.tmp 53) (.tmp 55) _ rfl (w.heap.size+1) 5 i0 _ 1 1 Tryz.underlying79 hi0 hz0 hz1 hz2 rfl (by omega) (.slice AO acc.length cO) acc.length _ rfl (HO.out.alloc _) (wo.heap.size+1) (some ⟨wo.heap.size,0,none⟩) 1 1 [.int .u8 s[j].toNat] rfl ⟨rfl,fun _=>⟨_,rfl,by simp,World.news_of_block (cs:=#[.int .u8 s[j].toNat]) (t:=5) (fr:=(0,0)) (heap_alloc_new wo _)⟩⟩ (by simp [Value.oneCell']) (by simp only [maxLen];omega) (by omega) (by simp;omega) ?_;intro v' w2 hown2 hg2 xw)
    have Gu:=af hown2
    have hlv:=fun q (hq:(Value.slice AO acc.length cO).ownBlock=some q)=>(HO.out.lt q hq).1
    have hB2:Below (w.alloc box).heap.size (w.alloc box) w2:=(HB.out.alloc (by simp;omega) _).grown hg2 (by simp;omega) (by simpa using hlv)
    clear hown2 hg2 xw hlv
    go_roundw
    case rel=>exact ⟨acc ++ [s[j]],i+1,by have:=HJ.out;omega,by have:=HJ.out;go_num,by simp;omega,by rw [List.length_append,List.map_append];exact Gu.out,hB2,by have:=HJ.out;rw [show p+1+(i+1)=j+1 by omega];exact HQ.out⟩
    case measure=>simp [intOf];omega
  ·obtain rfl:j=s.size:=by omega
   rw [List.drop_eq_nil_of_le (by simp)] at hq
   have HQ:=af hq
   clear hq
   go_wp2
   exact bodyPost_ret (v:=.tuple #[wM,.int .i64 0,.bool false]) (by simp [results,Tryz.results77,wM,go_sem,c0,c1,c2,c3]) rfl ⟨by rw [<-HQ.out];rfl,bY hB1 (Nat.le_refl _) _ _ _ _⟩
def yo (o:Option (Tk × Nat)) (p:Nat) (w:World) (e:Ending) (w':World):Prop:=
 ∃(tk:Int) (tt:ByteArray) (tn ta ee:Int),e= .returned (.tuple #[.agg #[.int .i64 tk,.string tt,.int .i64 tn,.int .i64 ta],.int .i64 ee,.bool o.isSome])/\Below w.heap.size w w'/\∀t n,o=some (t,n)->tk=t.k/\tt=bs t.t/\tn=t.n/\ta=p/\ee=((p+n:Nat):Int)
theorem ru (w:World) (c c':Array Value) (t t':TypeId):Below w.heap.size w ((w.alloc (.cells c t)).alloc (.cells c' t')):=((Below.refl _ _).alloc (Nat.le_refl _) _).alloc (by simp) _
theorem Qj {l:List UInt8} (h:words.contains l=true):l.length<=16:=by
 unfold words at h
 simp only [List.contains_cons,Bool.or_eq_true,List.contains_nil,Bool.false_eq_true,or_false,beq_iff_eq] at h
 rcases h with rfl|rfl|rfl|rfl|rfl|rfl|rfl|rfl|rfl|rfl|rfl|rfl|rfl|rfl|rfl|rfl|rfl|rfl|rfl|rfl|rfl|rfl|rfl|rfl|rfl|rfl|rfl|rfl <;> decide
theorem ZC {s:ByteArray} {p:Nat} (hp:p < s.size) (h:yZ s[p]=true):iF (s.data.toList.drop p)=uD (s.data.toList.drop p):=by
 unfold iF;rw [fV hp,h];rfl
theorem R9 {s:ByteArray} {p:Nat} (hp:p < s.size) (h:yZ s[p]=false) (h2:nA s[p]=true):iF (s.data.toList.drop p)=mP (s.data.toList.drop p):=by
 unfold iF;rw [fV hp,fV hp,h,h2];rfl
theorem ZE {s:ByteArray} {p:Nat} (hp:p < s.size) (h:yZ s[p]=false) (h2:nA s[p]=false) (h3:s[p]=34):iF (s.data.toList.drop p)=qa (s.data.toList.drop p):=by
 unfold iF;rw [fV hp,fV hp,fV hp,h,h2,h3];rfl
theorem ZF {s:ByteArray} {p:Nat} (hp:p < s.size) (h:yZ s[p]=false) (h2:nA s[p]=false) (h3:s[p]≠34):iF (s.data.toList.drop p)=Ay (s.data.toList.drop p):=by
 have:(s[p] == 34)=false:=by simpa using h3
 unfold iF;rw [fV hp,fV hp,fV hp,h,h2,this];rfl
theorem Ul (s:ByteArray) (p:Nat) (w:World) (hs:s.size<=8192) (hp:p < s.size) (h:yZ s[p]=false) (h2:nA s[p]=false) (h3:s[p]≠34):
  Calls Tryz.prog 46 #[.string s,.int .i64 p] w (yo (iF (s.data.toList.drop p)) p w):=by
 rw [ZF hp h h2 h3]
 have f34:((s[p].toNat:Int) == 34)=false:=by simpa using lX (d:=34) h3
 have p1:(p:Int) < (s.size:Int):=by omega
 obtain ⟨n,hn⟩:=aS (wF (s.data.toList.drop p))
 have hle:=Lb (s.data.toList.drop p)
 rw [hn,List.length_drop] at hle
 simp only [Array.length_toList,ByteArray.size_data] at hle
 have hcall:=Qi s p
 rw [hn] at hcall
 unfold Ay
 rw [hn]
 obtain ⟨t,ht⟩:=aS ((s.data.toList.drop p).take n)
 have htl:t.length=n:=by rw [<-ht,List.length_take_of_le (by simp;omega)]
 rw [ht] at hcall |-
 have hbz:(bs t).size=n:=by rw [QH,htl]
 have HL:=af h
 have HD:=af h2
 have HC:=af hcall
 by_cases hn0:n=0
 ·subst hn0
  have ht0:t=[]:=List.eq_nil_of_length_eq_zero htl
  subst ht0
  rw [if_pos rfl]
  have hb0:(bs [])=(⟨#[]⟩:ByteArray):=rfl
  rw [hb0] at HC
  clear h h2 h3 hn ht htl hcall hbz hb0 hle
  go_enter Tryz.func46,Tryz.ntmps46
  go_wp2_with (first|(go_at_call 73;((with_reducible refine (gQ s[p] _).mono ?_);rw [HL.out];rintro e w' ⟨rfl,rfl⟩))|(go_at_call 74;((with_reducible refine (iA s[p] _).mono ?_);rw [HD.out];rintro e w' ⟨rfl,rfl⟩))|(go_at_call 78;refine (HC.out _ hs hp).mono ?_;rintro e w' ⟨rfl,rfl⟩))
  exact bodyPost_ret (v:=.tuple #[.agg #[.int .i64 5,.string ⟨#[]⟩,.int .i64 0,.int .i64 p],.int .i64 p,.bool false]) (by simp [results,Tryz.results46,go_sem]) rfl ⟨_,_,_,_,_,rfl,iW _ _ _,fun t n h=>by cases h⟩
 ·rw [if_neg hn0]
  have hne:((bs t).toList == [])=false:=by
   rw [ByteArray.toList_eq,Jb]
   cases t with
   |nil=>exact absurd htl.symm hn0
   |cons a r=>rfl
  clear h h2 h3 hn ht htl hcall
  go_enter Tryz.func46,Tryz.ntmps46
  go_wp2_with (first|(go_at_call 73;((with_reducible refine (gQ s[p] _).mono ?_);rw [HL.out];rintro e w' ⟨rfl,rfl⟩))|(go_at_call 74;((with_reducible refine (iA s[p] _).mono ?_);rw [HD.out];rintro e w' ⟨rfl,rfl⟩))|(go_at_call 78;refine (HC.out _ hs hp).mono ?_;rintro e w' ⟨rfl,rfl⟩))
  exact bodyPost_ret (v:=.tuple #[.agg #[.int .i64 5,.string (bs t),.int .i64 0,.int .i64 p],.int .i64 ((p:Int)+(n:Int)),.bool true]) (by simp [results,Tryz.results46,go_sem]) rfl ⟨_,_,_,_,_,rfl,iW _ _ _,fun t' n' h=>by
   injection h with h;injection h with h1 h2;subst h1 h2;exact ⟨rfl,rfl,rfl,rfl,by omega⟩⟩
theorem Nb (s:ByteArray) (p:Nat) (w:World) (hs:s.size<=8192) (hp:p < s.size) (h:yZ s[p]=false) (h2:nA s[p]=false) (h3:s[p]=34):
  Calls Tryz.prog 46 #[.string s,.int .i64 p] w (yo (iF (s.data.toList.drop p)) p w):=by
 rw [ZE hp h h2 h3]
 have f34:((s[p].toNat:Int) == 34)=true:=by rw [h3];rfl
 have p1:(p:Int) < (s.size:Int):=by omega
 have hcall:=fun w=>Na s p w hs hp
 obtain ⟨o,ho⟩:=aS (qa (s.data.toList.drop p))
 rw [ho] at hcall |-
 have HL:=af h
 have HD:=af h2
 clear h h2 h3 ho
 cases o with
 |none=>
  have HC:=af hcall
  clear hcall
  go_enter Tryz.func46,Tryz.ntmps46
  go_wp2_with (first|(go_at_call 73;((with_reducible refine (gQ s[p] _).mono ?_);rw [HL.out];rintro e w' ⟨rfl,rfl⟩))|(go_at_call 74;((with_reducible refine (iA s[p] _).mono ?_);rw [HD.out];rintro e w' ⟨rfl,rfl⟩))|(go_at_call 77;refine (HC.out _).mono ?_;unfold rqV wM;rintro e w1 ⟨rfl,hb⟩;obtain ⟨hx1,hf1,_,hB1⟩:=kQ hb;clear hb;have c0:=hx1 0 _ rfl;have c1:=hx1 1 _ rfl;have c2:=hx1 2 _ rfl;have c3:=hx1 3 _ rfl;clear hx1))
  exact bodyPost_ret (v:=.tuple #[.agg #[.int .i64 0,.string ⟨#[]⟩,.int .i64 0,.int .i64 0],.int .i64 0,.bool false]) (by simp [results,Tryz.results46,go_sem,c0,c1,c2,c3]) rfl ⟨_,_,_,_,_,rfl,bY hB1 (Nat.le_refl _) _ _ _ _,fun t n h=>by cases h⟩
 |some x=>
  obtain ⟨t,n⟩:=x
  have HC:=af hcall
  clear hcall
  go_enter Tryz.func46,Tryz.ntmps46
  go_wp2_with (first|(go_at_call 73;((with_reducible refine (gQ s[p] _).mono ?_);rw [HL.out];rintro e w' ⟨rfl,rfl⟩))|(go_at_call 74;((with_reducible refine (iA s[p] _).mono ?_);rw [HD.out];rintro e w' ⟨rfl,rfl⟩))|(go_at_call 77;refine (HC.out _).mono ?_;unfold rqV Gx;rintro e w1 ⟨rfl,hb⟩;obtain ⟨hx1,hf1,_,hB1⟩:=kQ hb;clear hb;have c0:=hx1 0 _ rfl;have c1:=hx1 1 _ rfl;have c2:=hx1 2 _ rfl;have c3:=hx1 3 _ rfl;clear hx1))
  exact bodyPost_ret (v:=.tuple #[.agg #[.int .i64 t.k,.string (bs t.t),.int .i64 t.n,.int .i64 p],.int .i64 ((p+n:Nat):Int),.bool true]) (by simp [results,Tryz.results46,go_sem,c0,c1,c2,c3]) rfl ⟨_,_,_,_,_,rfl,bY hB1 (Nat.le_refl _) _ _ _ _,fun t' n' h=>by
   injection h with h;injection h with h1 h2;subst h1 h2;exact ⟨rfl,rfl,rfl,rfl,rfl⟩⟩
theorem Qk {l:List UInt8} {t:Tk} {n:Nat} (h:mP l=some (t,n)):t.t.length=n:=by
 unfold mP at h
 split at h
 ·cases h
 ·split at h
  ·cases h
  ·split at h
   ·simp only [Option.some.injEq,Prod.mk.injEq] at h
    obtain ⟨rfl,rfl⟩:=h
    exact List.length_take_of_le (pW _ _)
   ·cases h
theorem Nc (s:ByteArray) (p:Nat) (w:World) (hs:s.size<=8192) (hp:p < s.size) (h:yZ s[p]=false) (h2:nA s[p]=true):
  Calls Tryz.prog 46 #[.string s,.int .i64 p] w (yo (iF (s.data.toList.drop p)) p w):=by
 rw [R9 hp h h2]
 have p1:(p:Int) < (s.size:Int):=by omega
 have hcall:=fun w=>M9 s p w hs hp h2
 have hfs:∀t n,mP (s.data.toList.drop p)=some (t,n)->t.t.length=n/\n<=8192:=by
  intro t n e
  have e2:iF (s.data.toList.drop p)=some (t,n):=by rw [R9 hp h h2];exact e
  have:=(qM e2).2
  rw [List.length_drop] at this
  simp only [Array.length_toList,ByteArray.size_data] at this
  exact ⟨Qk e,by omega⟩
 obtain ⟨o,ho⟩:=aS (mP (s.data.toList.drop p))
 rw [ho] at hcall hfs |-
 have HL:=af h
 have HD:=af h2
 clear h h2 ho
 cases o with
 |none=>
  have HC:=af hcall
  clear hcall hfs
  go_enter Tryz.func46,Tryz.ntmps46
  go_wp2_with (first|(go_at_call 73;((with_reducible refine (gQ s[p] _).mono ?_);rw [HL.out];rintro e w' ⟨rfl,rfl⟩))|(go_at_call 74;((with_reducible refine (iA s[p] _).mono ?_);rw [HD.out];rintro e w' ⟨rfl,rfl⟩))|(go_at_call 76;refine (HC.out _).mono ?_;unfold XX wM;rintro e w1 ⟨rfl,hb⟩;obtain ⟨hx1,hf1,hz1,hB1⟩:=kQ hb;clear hb;have c0:=hx1 0 _ rfl;have c1:=hx1 1 _ rfl;have c2:=hx1 2 _ rfl;have c3:=hx1 3 _ rfl;clear hx1))
  have hz:w.heap.size < w1.heap.size:=by omega
  go_region
  go_wp2
  exact bodyPost_ret (v:=.tuple #[.agg #[.int .i64 0,.string ⟨#[]⟩,.int .i64 0,.int .i64 0],.int .i64 p,.bool false]) (by simp [results,Tryz.results46,go_sem,c0,c1,c2,c3,hz]) rfl ⟨_,_,_,_,_,rfl,Below.drew ((bY hB1 (Nat.le_refl _) _ _ _ _).alloc (by simp;omega) _),fun t n h=>by cases h⟩
 |some x=>
  obtain ⟨t,n⟩:=x
  obtain ⟨hl,hn⟩:=hfs t n rfl
  have hbz:(bs t.t).size=n:=by rw [QH,hl]
  have HC:=af hcall
  clear hcall hfs hl
  go_enter Tryz.func46,Tryz.ntmps46
  go_wp2_with (first|(go_at_call 73;((with_reducible refine (gQ s[p] _).mono ?_);rw [HL.out];rintro e w' ⟨rfl,rfl⟩))|(go_at_call 74;((with_reducible refine (iA s[p] _).mono ?_);rw [HD.out];rintro e w' ⟨rfl,rfl⟩))|(go_at_call 76;refine (HC.out _).mono ?_;unfold XX Gx;rintro e w1 ⟨rfl,hb⟩;obtain ⟨hx1,hf1,hz1,hB1⟩:=kQ hb;clear hb;have c0:=hx1 0 _ rfl;have c1:=hx1 1 _ rfl;have c2:=hx1 2 _ rfl;have c3:=hx1 3 _ rfl;clear hx1))
  have hz:w.heap.size < w1.heap.size:=by omega
  go_region
  go_wp2
  exact bodyPost_ret (v:=.tuple #[.agg #[.int .i64 t.k,.string (bs t.t),.int .i64 t.n,.int .i64 p],.int .i64 ((p:Int)+(n:Int)),.bool true]) (by simp [results,Tryz.results46,go_sem,c0,c1,c2,c3,hz]) rfl ⟨_,_,_,_,_,rfl,Below.drew ((bY hB1 (Nat.le_refl _) _ _ _ _).alloc (by simp;omega) _),fun t' n' h=>by
   injection h with h;injection h with h1 h2;subst h1 h2;exact ⟨rfl,rfl,rfl,rfl,by omega⟩⟩
theorem Ql (s:ByteArray) (p:Nat) (w:World) (hs:s.size<=8192) (hp:p < s.size) (h:yZ s[p]=true):
  Calls Tryz.prog 46 #[.string s,.int .i64 p] w (yo (iF (s.data.toList.drop p)) p w):=by
 rw [ZC hp h]
 have p0:(0:Int)<=(p:Int):=by omega
 have p1:(p:Int) < (s.size:Int):=by omega
 obtain ⟨N,hN⟩:=aS (iQ xq (s.data.toList.drop p))
 have hrun:=pW xq (s.data.toList.drop p)
 rw [hN,List.length_drop] at hrun
 simp only [Array.length_toList,ByteArray.size_data] at hrun
 obtain ⟨o,ho⟩:=aS (uD (s.data.toList.drop p))
 have ho2:=ho
 unfold uD at ho2
 rw [hN] at ho2
 rw [ho]
 have HP:=af h
 have HN:=af hN
 have Gu:=af ho2
 clear ho ho2 hN h
 go_enter Tryz.func46,Tryz.ntmps46
 go_wp2_with (first|(go_at_call 73;((with_reducible refine (gQ s[p] _).mono ?_);rw [HP.out];rintro e w' ⟨rfl,rfl⟩)))
 go_loop [7] (fun i=>∃j:Nat,p<=j/\j<=s.size/\i= .int .i64 j/\(j - p)+iQ xq (s.data.toList.drop j)=N) (fun i=>s.size - (intOf i).toNat)
 case atStart=>exact ⟨p,Nat.le_refl _,by omega,rfl,by have:=HN.out;omega⟩
 case round=>
  obtain ⟨j,hpj,hj,rfl,hr⟩:=hrel
  have j0:(0:Int)<=(j:Int):=by omega
  have j2:(j:Int)<=(s.size:Int):=by omega
  by_cases hmore:j < s.size/\sU xq (s.data.toList.drop j)=true
  ·obtain ⟨hjs,hD⟩:=hmore
   rw [fV hjs] at hD
   have hy:=uS (p:=xq) hjs hD
   have j1:(j:Int) < (s.size:Int):=by omega
   have HR:=af (show (j+1 - p)+iQ xq (s.data.toList.drop (j+1))=N by omega)
   cases hl:yZ s[j] with
   |true=>
    have HL:=af hl
    clear hr hy hD hl
    go_wp2_with (first|(go_at_call 73;((with_reducible refine (gQ s[j] _).mono ?_);rw [HL.out];rintro e w' ⟨rfl,rfl⟩)))
    go_round
    case rel=>exact ⟨j+1,by omega,by omega,by go_num,HR.out⟩
    case measure=>simp [intOf];omega
   |false=>
    have hd:nA s[j]=true:=by simpa [xq,hl] using hD
    have HL:=af hl
    have HD:=af hd
    clear hr hy hD hl hd
    go_wp2_with (first|(go_at_call 73;((with_reducible refine (gQ s[j] _).mono ?_);rw [HL.out];rintro e w' ⟨rfl,rfl⟩))|(go_at_call 74;((with_reducible refine (iA s[j] _).mono ?_);rw [HD.out];rintro e w' ⟨rfl,rfl⟩)))
    go_round
    case rel=>exact ⟨j+1,by omega,by omega,by go_num,HR.out⟩
    case measure=>simp [intOf];omega
  ·have hz:iQ xq (s.data.toList.drop j)=0:=by
    rcases Nat.lt_or_ge j s.size with h|h
    ·have h2:xq s[j]=false:=by
      cases hx:xq s[j]
      ·rfl
      ·exact absurd ⟨h,by rw [fV h];exact hx⟩ hmore
     exact D7 h h2
    ·rw [List.drop_eq_nil_of_le (by simpa using h)];rfl
   have hjn:j=p+N:=by omega
   subst hjn
   have hnot:∀h:p+N < s.size,yZ s[p+N]=false/\nA s[p+N]=false:=by
    intro h
    have h2:xq s[p+N]=false:=by
     cases hx:xq s[p+N]
     ·rfl
     ·exact absurd ⟨h,by rw [fV h];exact hx⟩ hmore
    simpa [xq] using h2
   obtain ⟨t,ht⟩:=aS ((s.data.toList.drop p).take N)
   have hX:=AP s p N
   rw [ht] at hX
   have ho2:=Gu.out
   rw [ht] at ho2
   have e1:(p:Int)+(N:Int) - (p:Int)=(N:Int):=by omega
   have e2:((p:Int)+(N:Int)).toNat=p+N:=by omega
   obtain ⟨b,hb⟩:=aS (KT (bs t))
   have HW:=af hb
   rw [I8] at hb
   rw [hb] at ho2
   have htl:t.length=N:=by rw [<-ht,List.length_take_of_le (by simp;omega)]
   have hbN:b=true->N<=16:=by
    intro e;rw [e] at hb
    have:=Qj hb
    omega
   clear hr hz hmore Gu hb HN
   by_cases hjs:p+N < s.size
   ·have j1:(p:Int)+(N:Int) < (s.size:Int):=by omega
    have HL:=af (hnot hjs).1
    have HD:=af (hnot hjs).2
    clear hnot ht htl
    cases b with
    |true=>
     have XY:(N:Int)<=16:=by have:=hbN rfl;omega
     have ho3:o=some (⟨2,t,0⟩,N):=by simpa using ho2.symm
     subst ho3
     clear ho2 hbN
     go_wp2_with (first|(go_at_call 73;((with_reducible refine (gQ s[p+N] _).mono ?_);rw [HL.out];rintro e w' ⟨rfl,rfl⟩))|(go_at_call 74;((with_reducible refine (iA s[p+N] _).mono ?_);rw [HD.out];rintro e w' ⟨rfl,rfl⟩))|(go_at_call 75;refine (sM _ _).mono ?_;rw [HW.out];rintro e w' ⟨rfl,rfl⟩))
     exact bodyPost_ret (v:=.tuple #[.agg #[.int .i64 2,.string (bs t),.int .i64 0,.int .i64 p],.int .i64 ((p:Int)+(N:Int)),.bool true]) (by simp [results,Tryz.results46,go_sem]) rfl ⟨_,_,_,_,_,rfl,ru _ _ _ _ _,fun t' n' h=>by
     injection h with h;injection h with h1 h2;subst h1 h2;exact ⟨rfl,rfl,rfl,rfl,by omega⟩⟩
    |false=>
     by_cases hN:16 < N
     ·have XY:16 < (N:Int):=by omega
      have ho3:o=none:=by simpa [hN] using ho2.symm
      subst ho3
      clear ho2 hbN
      go_wp2_with (first|(go_at_call 73;((with_reducible refine (gQ s[p+N] _).mono ?_);rw [HL.out];rintro e w' ⟨rfl,rfl⟩))|(go_at_call 74;((with_reducible refine (iA s[p+N] _).mono ?_);rw [HD.out];rintro e w' ⟨rfl,rfl⟩))|(go_at_call 75;refine (sM _ _).mono ?_;rw [HW.out];rintro e w' ⟨rfl,rfl⟩))
      exact bodyPost_ret (v:=.tuple #[.agg #[.int .i64 1,.string (bs t),.int .i64 0,.int .i64 p],.int .i64 ((p:Int)+(N:Int)),.bool false]) (by simp [results,Tryz.results46,go_sem];omega) rfl ⟨_,_,_,_,_,rfl,ru _ _ _ _ _,fun t n h=>by cases h⟩
     ·have XY:(N:Int)<=16:=by omega
      have ho3:o=some (⟨1,t,0⟩,N):=by simpa [hN] using ho2.symm
      subst ho3
      clear ho2 hbN
      go_wp2_with (first|(go_at_call 73;((with_reducible refine (gQ s[p+N] _).mono ?_);rw [HL.out];rintro e w' ⟨rfl,rfl⟩))|(go_at_call 74;((with_reducible refine (iA s[p+N] _).mono ?_);rw [HD.out];rintro e w' ⟨rfl,rfl⟩))|(go_at_call 75;refine (sM _ _).mono ?_;rw [HW.out];rintro e w' ⟨rfl,rfl⟩))
      exact bodyPost_ret (v:=.tuple #[.agg #[.int .i64 1,.string (bs t),.int .i64 0,.int .i64 p],.int .i64 ((p:Int)+(N:Int)),.bool true]) (by simp [results,Tryz.results46,go_sem]) rfl ⟨_,_,_,_,_,rfl,ru _ _ _ _ _,fun t' n' h=>by
     injection h with h;injection h with h1 h2;subst h1 h2;exact ⟨rfl,rfl,rfl,rfl,by omega⟩⟩
   ·have j1:(p:Int)+(N:Int)=(s.size:Int):=by omega
    have j3:¬(p:Int)+(N:Int) < (s.size:Int):=by omega
    clear hnot ht htl j1
    cases b with
    |true=>
     have XY:(N:Int)<=16:=by have:=hbN rfl;omega
     have ho3:o=some (⟨2,t,0⟩,N):=by simpa using ho2.symm
     subst ho3
     clear ho2 hbN
     go_wp2_with (first|(go_at_call 75;refine (sM _ _).mono ?_;rw [HW.out];rintro e w' ⟨rfl,rfl⟩))
     exact bodyPost_ret (v:=.tuple #[.agg #[.int .i64 2,.string (bs t),.int .i64 0,.int .i64 p],.int .i64 ((p:Int)+(N:Int)),.bool true]) (by simp [results,Tryz.results46,go_sem]) rfl ⟨_,_,_,_,_,rfl,ru _ _ _ _ _,fun t' n' h=>by
     injection h with h;injection h with h1 h2;subst h1 h2;exact ⟨rfl,rfl,rfl,rfl,by omega⟩⟩
    |false=>
     by_cases hN:16 < N
     ·have XY:16 < (N:Int):=by omega
      have ho3:o=none:=by simpa [hN] using ho2.symm
      subst ho3
      clear ho2 hbN
      go_wp2_with (first|(go_at_call 75;refine (sM _ _).mono ?_;rw [HW.out];rintro e w' ⟨rfl,rfl⟩))
      exact bodyPost_ret (v:=.tuple #[.agg #[.int .i64 1,.string (bs t),.int .i64 0,.int .i64 p],.int .i64 ((p:Int)+(N:Int)),.bool false]) (by simp [results,Tryz.results46,go_sem];omega) rfl ⟨_,_,_,_,_,rfl,ru _ _ _ _ _,fun t n h=>by cases h⟩
     ·have XY:(N:Int)<=16:=by omega
      have ho3:o=some (⟨1,t,0⟩,N):=by simpa [hN] using ho2.symm
      subst ho3
      clear ho2 hbN
      go_wp2_with (first|(go_at_call 75;refine (sM _ _).mono ?_;rw [HW.out];rintro e w' ⟨rfl,rfl⟩))
      exact bodyPost_ret (v:=.tuple #[.agg #[.int .i64 1,.string (bs t),.int .i64 0,.int .i64 p],.int .i64 ((p:Int)+(N:Int)),.bool true]) (by simp [results,Tryz.results46,go_sem]) rfl ⟨_,_,_,_,_,rfl,ru _ _ _ _ _,fun t' n' h=>by
     injection h with h;injection h with h1 h2;subst h1 h2;exact ⟨rfl,rfl,rfl,rfl,by omega⟩⟩
theorem Um (s:ByteArray) (p:Nat) (w:World) (hs:s.size<=8192) (hp:p < s.size):
  Calls Tryz.prog 46 #[.string s,.int .i64 p] w (yo (iF (s.data.toList.drop p)) p w):=by
 cases h:yZ s[p] with
 |true=>exact Ql s p w hs hp h
 |false=>
  cases h2:nA s[p] with
  |true=>exact Nc s p w hs hp h h2
  |false=>
   by_cases h3:s[p]=34
   ·exact Nb s p w hs hp h h2 h3
   ·exact Ul s p w hs hp h h2 h3
end Go.Proofs.YtnhidldofjengaaGreatDoor
