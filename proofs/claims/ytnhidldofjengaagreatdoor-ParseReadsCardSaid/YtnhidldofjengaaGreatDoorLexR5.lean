/- Both parsers, part 3. -/
import Derived.Test.YtnhidldofjengaaGreatDoorRows
import Derived.Test.YtnhidldofjengaaGreatDoorTie
import Derived.Test.YtnhidldofjengaaGreatDoorCards
import Derived.Test.YtnhidldofjengaaGreatDoorLexRD
import Derived.ChangeSame
import Derived.ChangeVars
import Derived.ChangeMaps5
import Derived.JoinedOf
import Derived.RowKit
import Derived.RowKitTokens
import Derived.RowKit3
import Derived.LaidLaws
import Derived.Handed
import Derived.ProofKit
import Derived.OpenShut
import Derived.Lib.SmallJoins
import Derived.SevenTiedAt
import Derived.Stop.Joined
import Derived.Stop.LaidErr
import Derived.Carry
import Derived.ChangeSlices
namespace Go.Proofs.YtnhidldofjengaaGreatDoor
open Go.ChangeShapes Go.WideShapes Go.ChangeAt Go.RowKit Go.Joins Go.Deep
set_option linter.unusedVariables false
set_option linter.unusedSimpArgs false
theorem own:ownKnob Tryz.prog.godebug=none:=by kernel_rfl
abbrev abx:ByteArray:=⟨#[118,97,108,117,101,32,111,117,116,32,111,102,32,114,97,110,103,101]⟩
abbrev YB:ByteArray:=⟨#[105,110,118,97,108,105,100,32,115,121,110,116,97,120]⟩
noncomputable def low:Nat:=(World.holding Tryz.prog default ⟨#[],#[],[]⟩).heap.size
noncomputable def Ia (os:Os):World:=
 let w0:=World.holding Tryz.prog os ⟨#[.cells #[.string abx] 113,.cells #[.string YB] 113],#[],[]⟩
 { w0 with heap:=((((w0.heap.modify 2 fun
   | .cells _ t frozen=>.cells ((bytesOf Rows.laid_internal_strconv_uint64pow10).map fun z=>Value.int .u64 z).toArray t frozen
   |o=>o).modify 3 fun
   | .cells _ t frozen=>.cells ((bytesOf Rows.laid_math_bits_deBruijn32tab).map fun z=>Value.int .u8 z).toArray t frozen
   |o=>o).modify 4 fun
   | .cells _ t frozen=>.cells ((bytesOf Rows.laid_math_bits_deBruijn64tab).map fun z=>Value.int .u8 z).toArray t frozen
   |o=>o).modify 1 fun
   | .cells _ t frozen=>.cells #[.iface 111 (.pointer (some ⟨low,0,none⟩))] t frozen
   |o=>o).modify 0 fun
   | .cells _ t frozen=>.cells #[.iface 111 (.pointer (some ⟨low+1,0,none⟩))] t frozen
   |o=>o }
where
 bytesOf:DataW Unit->List Int
  | .agg l=>l.map fun| .lit (.int _ n)=>n|_=>0
  |_=>[]
theorem GA (os:Os) (args:Array Value):laidMet Tryz.prog Rows.parseReadsRow.laid ((Ia os).forCall (fun _ _=>0) ⟨#[],args,[]⟩).memory:=
 laidMet_of_run' 8 (by kernel_rfl) (by kernel_rfl)
theorem star: "*" ++ "errors.errorString"= "*errors.errorString":=by decide
theorem NI (u:TypeId) (h:Tryz.prog.typeName? 3 u=some "*errors.errorString"):u=111:=
 typeName_ptr_named (nm:= "errors.errorString") (by rw [star];kernel_rfl) (by kernel_rfl) (by decide) u (by rw [star];exact h)
theorem Ji {W:World} (h:laidMet Tryz.prog Rows.parseReadsRow.laid W):qF W:=by
 have e:Tryz.prog.globalNamed "strconv.ErrRange"=some 1:=by kernel_rfl
 have e2:(Tryz.prog.globals[1]?).map (·.type)=some 76:=by kernel_rfl
 have h1:laidMet Tryz.prog [("strconv.ErrRange",Rows.laid_strconv_ErrRange),("strconv.ErrSyntax",Rows.laid_strconv_ErrSyntax)] W:=laidMet.tail (laidMet.tail (laidMet.tail h))
 obtain ⟨a,s,hv,_,_,_⟩:=laid_sentinel h1 e e2 Tryz.underlying76 NI Tryz.underlying111 Tryz.underlying113 rfl rfl Tryz.underlying9 (by kernel_rfl) (by kernel_rfl)
 have:=World.var?_cell e hv 0
 exact ⟨_,_,by simpa using this⟩
section
variable {H : Type} {enc : TypeId × Value -> H} {P : Program} {w : World} {base : Nat} {spare : Nat -> Bool} {held : Bool}
theorem zh (hl:laidOutB P=true) {W W':World} (hb:Below W.heap.size W W'):∀{ts:List TypeId} {vs:List Value} {ds:List (DataW H)} {ps:List MemPlace},
  (∀t∈ts,P.readableRec t=true/\t < P.types.size)->DataW.TrodAll enc P W 0 (fun _=>true) true ts vs ds ps->(∀x∈ps,x.block < W.heap.size)->
  DataW.TrodAll enc P W' 0 (fun b=>decide (b < W.heap.size)) true ts vs ds ps
 |[],[],[],_,_,h,_=>h
 |_ :: _,_ :: _,_ :: _,_,hT,⟨p,q,h1,h2,e⟩,hs=>
  ⟨p,q,Below.trod hl (hT _ (List.mem_cons.2 (Or.inl rfl))).1 (hT _ (List.mem_cons.2 (Or.inl rfl))).2 h1 hb (fun x hx=>hs x (by rw [e];exact List.mem_append_left _ hx)),
   zh hl hb (fun t ht=>hT t (List.mem_cons.2 (Or.inr ht))) h2 (fun x hx=>hs x (by rw [e];exact List.mem_append_right _ hx)),e⟩
theorem UM {f:Func} {s:ChangeSpec} {W W':World} {args:Array Value} {ds:List (DataW H)} {before:List MemPlace} {tb:TypeId}
  (hl:laidOutB P=true) (hR:∀t∈f.params.toList,P.readableRec t=true/\t < P.types.size) (hv:s.vars=[]) (hr:f.resultTypes=#[tb]) (ht:P.underlying tb=some .bool)
  (hfn:s.fn H ds={ results:=[.lit (.bool true)],args:=ds })
  (hW:DataW.Whole enc P f.params.toList s.vars false W args.toList ds [] before) (hb:Below W.heap.size W W'):
  s.post enc P f false true false false W args (.bool true) W':=by
 have hlt:∀p∈before,p.block < W.heap.size:=fun p hp=>hW.lt p hp
 have hA:DataW.TrodAll enc P W 0 (fun _=>true) true f.params.toList args.toList ds before:=by
  obtain ⟨p,q,hA,hV,rfl,_,_⟩:=hW
  rw [hv] at hV
  obtain ⟨_,rfl⟩:=trodVars_none hV
  simpa using hA
 refine ⟨ds,[],before,[],before,[],hW,?_,?_,?_,hb.frame _,fun h=>by cases h⟩
 ·rw [List.append_nil,hfn,hr]
  exact trodAll_mk1 (shut_bool ht true)
 ·rw [List.append_nil,hfn]
  exact zh hl hb hR hA hlt
 ·rw [List.append_nil,hfn,hv]
  rfl
end
theorem laidOut:laidOutB Tryz.prog=true:=by kernel_rfl
end Go.Proofs.YtnhidldofjengaaGreatDoor
