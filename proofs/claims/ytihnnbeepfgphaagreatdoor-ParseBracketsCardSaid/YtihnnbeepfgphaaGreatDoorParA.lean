/-
  The document's parser, plainly: trees, results, and one function by fuel.
-/
import Derived.Test.YtihnnbeepfgphaaGreatDoorLexD
namespace Go.Proofs.YtihnnbeepfgphaaGreatDoor
open Go.RowKit
set_option linter.unusedVariables false
set_option linter.unusedSimpArgs false

abbrev T := Tk × Nat
inductive Tr where
  | mk (k op n : Int) (pkg text : List UInt8) (at_ : Nat) (kids : List Tr)
def Tr.kids : Tr → List Tr
  | .mk _ _ _ _ _ _ ks => ks
def Tr.num : Tr → Int
  | .mk _ _ n _ _ _ _ => n
inductive R where
  | ok (t : Tr) (l : List T)
  | bad (at_ : Nat) (e : Int)
  | out
def bnd (r : R) (f : Tr → List T → R) : R :=
  match r with
  | .ok t l => f t l
  | .bad a e => .bad a e
  | .out => .out
abbrev lst (ks : List Tr) : Tr := .mk 0 0 0 [] [] 0 ks
def mark : List T → List UInt8
  | [] => []
  | x :: _ => if x.1.k = 2 ∨ x.1.k = 5 then x.1.t else []
def kind : List T → Int
  | [] => 0
  | x :: _ => x.1.k
/-- Tokens as a text has them: the last one is the end, and no other. -/
def good : List T → Prop
  | [] => False
  | x :: r => if x.1.k = 0 then r = [] ∧ x.1.t = [] ∧ x.1.n = 0 else good r
def takeR (l : List T) (f : T → List T → R) : R :=
  match l with
  | [] => .out
  | x :: r => f x r
def refuse (l : List T) : R := takeR l fun x _ => .bad x.2 5
def want (m : List UInt8) (l : List T) (f : T → List T → R) : R := if mark l = m then takeR l f else refuse l
def wantK (k : Int) (l : List T) (f : T → List T → R) : R := if kind l = k then takeR l f else refuse l
def enter (m : List UInt8) (l : List T) (o : Nat) (f : T → List T → R) : R :=
  want m l fun x r => if o = 40 then .bad x.2 3 else f x r
/-- What stands behind a word or a sign, if it is there. -/
def skip (m : List UInt8) (l : List T) : Bool × List T := if mark l = m then (true, l.drop 1) else (false, l)
def nd (k : Int) (a : Nat) (ks : List Tr) : Tr := .mk k 0 0 [] [] a ks
def tnd (k : Int) (t : List UInt8) (a : Nat) (ks : List Tr) : Tr := .mk k 0 0 [] t a ks
/-- A sign's operation, and how strongly it binds. -/
def opOf (m : List UInt8) : Int × Nat :=
  if m = [124, 124] then (18, 1) else if m = [38, 38] then (17, 2) else if m = [61, 61] then (11, 3) else if m = [33, 61] then (12, 3) else if m = [60] then (13, 3) else if m = [60, 61] then (14, 3) else if m = [62] then (15, 3) else if m = [62, 61] then (16, 3) else if m = [43] then (1, 4) else if m = [45] then (2, 4) else if m = [42] then (3, 5) else if m = [47] then (4, 5) else if m = [37] then (5, 5) else (0, 0)
/-- The parts that stand with commas between. -/
inductive Pt where
  | expr | key | param | typeOf | typeVar | field | sig
inductive NT where
  | expr | binary (k : Nat) | bins (k : Nat) (t : Tr) | unary | behind (t : Tr) | newStruct | key
  | within (a c : List UInt8) (p : Pt) | list (p : Pt) | lists (p : Pt) (acc : List Tr)
  | call (t : Tr) (p : Pt) | indexed (t : Tr) | selected (t : Tr)
  | first | firstMark | inBrackets | literalList | literalFunc | makeCall
  | block | stats (acc : List Tr) | stat | branch | otherwise | loop | leap (k : Int) | giveBack | define | simple
  | variable_ | named (k : Int) | param | typeOf | typeName | head (p : Pt)
  | file | imports (acc : List Tr) | decls (acc : List Tr) | decl | constant | declaredType | parts (p : Pt) (acc : List Tr) | field | sig | declaredFunc | receiver | typeVar
def Pt.nt : Pt → NT
  | .expr => .expr | .key => .key | .param => .param | .typeOf => .typeOf | .typeVar => .typeVar | .field => .field | .sig => .sig
def isT (m : List UInt8) : Bool := m = [105, 110, 116] || m = [98, 111, 111, 108] || m = [115, 116, 114, 105, 110, 103]
def begins (l : List T) : Bool := isT (mark l) || mark l = [42] || mark l = [91] || mark l = [102, 117, 110, 99] || kind l = 1
def builtin (m : List UInt8) : Bool := m = [108, 101, 110] || m = [97, 112, 112, 101, 110, 100] || m = [112, 97, 110, 105, 99] || m = [112, 117, 116] || m = [103, 101, 116]
def defines (l : List T) : Bool :=
  match l with
  | x :: y :: _ => x.1.k = 1 && y.1.k = 5 && y.1.t = [58, 61]
  | _ => false

def go : Nat → NT → List T → Nat → R
  | 0, _, _, _ => .out
  | n + 1, nt, l, o =>
    match nt with
    | .expr => go n (.binary 1) l o
    | .binary k => bnd (go n .unary l o) fun t l => go n (.bins k t) l o
    | .bins k t => if (opOf (mark l)).2 < k then .ok t l
        else takeR l fun x r => bnd (go n (.binary ((opOf (mark l)).2 + 1)) r o) fun u r => go n (.bins k (.mk 31 (opOf (mark l)).1 0 [] [] x.2 [t, u])) r o
    | .unary =>
        if mark l = [45] then takeR l fun x r => bnd (go n .unary r o) fun t r => .ok (.mk 32 1 0 [] [] x.2 [t]) r
        else if mark l = [33] then takeR l fun x r => bnd (go n .unary r o) fun t r => .ok (.mk 32 3 0 [] [] x.2 [t]) r
        else if mark l = [38] then go n .newStruct l o
        else bnd (go n .first l o) fun t l => go n (.behind t) l o
    | .behind t =>
        if mark l = [40] then bnd (go n (.call t .expr) l o) fun t l => go n (.behind t) l o
        else if mark l = [91] then bnd (go n (.indexed t) l o) fun t l => go n (.behind t) l o
        else if mark l = [46] then bnd (go n (.selected t) l o) fun t l => go n (.behind t) l o
        else .ok t l
    | .newStruct => want [38] l fun x l => bnd (go n .typeName l o) fun t l => bnd (go n (.within [123] [125] .key) l o) fun ks l => .ok (nd 38 x.2 (t :: ks.kids)) l
    | .key => wantK 1 l fun x l => want [58] l fun _ l => bnd (go n .expr l o) fun t l => .ok (tnd 39 x.1.t x.2 [t]) l
    | .within a c p => enter a l o fun _ l => if mark l = c then want c l fun _ l => .ok (lst []) l
        else bnd (go n (.list p) l (o + 1)) fun ks l => want c l fun _ l => .ok (lst ks.kids) l
    | .list p => bnd (go n p.nt l o) fun t l => go n (.lists p [t]) l o
    | .lists p acc => if mark l = [44] then takeR l fun _ l => bnd (go n p.nt l o) fun t l => go n (.lists p (acc ++ [t])) l o
        else .ok (lst acc) l
    | .call t p => takeR l fun x _ => bnd (go n (.within [40] [41] p) l o) fun ks l => .ok (nd 33 x.2 (t :: ks.kids)) l
    | .indexed t => enter [91] l o fun x l =>
        if mark l = [58] then takeR l fun _ l =>
          if mark l = [93] then takeR l fun _ l => .ok (nd 35 x.2 [t]) l
          else bnd (go n .expr l (o + 1)) fun u l => want [93] l fun _ l => .ok (.mk 35 0 2 [] [] x.2 [t, u]) l
        else bnd (go n .expr l (o + 1)) fun u l =>
          if mark l = [93] then takeR l fun _ l => .ok (nd 34 x.2 [t, u]) l
          else want [58] l fun _ l =>
            if mark l = [93] then takeR l fun _ l => .ok (.mk 35 0 1 [] [] x.2 [t, u]) l
            else bnd (go n .expr l (o + 1)) fun v l => want [93] l fun _ l => .ok (.mk 35 0 3 [] [] x.2 [t, u, v]) l
    | .selected t => want [46] l fun x l =>
        if mark l = [40] then enter [40] l o fun _ l => bnd (go n .typeOf l (o + 1)) fun u l => want [41] l fun _ l => .ok (nd 37 x.2 [t, u]) l
        else wantK 1 l fun y l => .ok (tnd 36 y.1.t x.2 [t]) l
    | .first => if kind l = 3 then takeR l fun x l => .ok (.mk 26 0 x.1.n [] [] x.2 []) l
        else if kind l = 4 then takeR l fun x l => .ok (tnd 27 x.1.t x.2 []) l
        else if kind l = 1 then takeR l fun x l => .ok (tnd 30 x.1.t x.2 []) l
        else go n .firstMark l o
    | .firstMark =>
        if mark l = [116, 114, 117, 101] then takeR l fun x l => .ok (.mk 28 0 1 [] [] x.2 []) l
        else if mark l = [102, 97, 108, 115, 101] then takeR l fun x l => .ok (nd 28 x.2 []) l
        else if mark l = [110, 105, 108] then takeR l fun x l => .ok (nd 29 x.2 []) l
        else if mark l = [40] then go n .inBrackets l o
        else if mark l = [91] then go n .literalList l o
        else if mark l = [102, 117, 110, 99] then go n .literalFunc l o
        else if builtin (mark l) then takeR l fun x l => go n (.call (tnd 30 x.1.t x.2 []) .expr) l o
        else if mark l = [109, 97, 107, 101] then go n .makeCall l o
        else refuse l
    | .inBrackets => enter [40] l o fun x l =>
        if mark l = [42] then takeR l fun _ l => bnd (go n .typeName l (o + 1)) fun t l => want [41] l fun _ l => want [46] l fun _ l => wantK 1 l fun y l => .ok (tnd 42 y.1.t x.2 [t]) l
        else bnd (go n .expr l (o + 1)) fun t l => want [41] l fun _ l => .ok t l
    | .literalList => enter [91] l o fun x l => want [93] l fun _ l => bnd (go n .typeOf l o) fun t l => bnd (go n (.within [123] [125] .expr) l o) fun ks l => .ok (nd 40 x.2 (t :: ks.kids)) l
    | .literalFunc => want [102, 117, 110, 99] l fun x l => bnd (go n (.head .param) l o) fun h l => bnd (go n .block l o) fun t l => .ok (.mk 41 0 h.num [] [] x.2 (h.kids ++ [t])) l
    | .makeCall => takeR l fun x l => enter [40] l o fun y l => bnd (go n .typeOf l (o + 1)) fun t l => want [44] l fun _ l => bnd (go n .expr l (o + 1)) fun u l => want [41] l fun _ l => .ok (nd 33 y.2 [tnd 30 x.1.t x.2 [], t, u]) l
    | .block => enter [123] l o fun x l => bnd (go n (.stats []) l (o + 1)) fun ks l => want [125] l fun _ l => .ok (nd 17 x.2 ks.kids) l
    | .stats acc => if mark l = [125] then .ok (lst acc) l else bnd (go n .stat l o) fun t l => go n (.stats (acc ++ [t])) l o
    | .stat =>
        if mark l = [118, 97, 114] then go n .variable_ l o
        else if mark l = [105, 102] then go n .branch l o
        else if mark l = [102, 111, 114] then go n .loop l o
        else if mark l = [98, 114, 101, 97, 107] then go n (.leap 23) l o
        else if mark l = [99, 111, 110, 116, 105, 110, 117, 101] then go n (.leap 24) l o
        else if mark l = [114, 101, 116, 117, 114, 110] then go n .giveBack l o
        else if mark l = [123] then go n .block l o
        else if defines l then go n .define l o
        else go n .simple l o
    | .branch => want [105, 102] l fun x l => bnd (go n .expr l o) fun t l => bnd (go n .block l o) fun u l =>
        if mark l = [101, 108, 115, 101] then takeR l fun _ l => bnd (go n .otherwise l o) fun v l => .ok (nd 21 x.2 [t, u, v]) l else .ok (nd 21 x.2 [t, u]) l
    | .otherwise => if mark l = [105, 102] then go n .branch l o else go n .block l o
    | .loop => want [102, 111, 114] l fun x l => if mark l = [123] then bnd (go n .block l o) fun t l => .ok (nd 22 x.2 [t]) l
        else bnd (go n .expr l o) fun t l => bnd (go n .block l o) fun u l => .ok (.mk 22 0 1 [] [] x.2 [t, u]) l
    | .leap k => takeR l fun x l => want [59] l fun _ l => .ok (nd k x.2 []) l
    | .giveBack => want [114, 101, 116, 117, 114, 110] l fun x l => if mark l = [59] then takeR l fun _ l => .ok (nd 25 x.2 []) l
        else bnd (go n .expr l o) fun t l => want [59] l fun _ l => .ok (nd 25 x.2 [t]) l
    | .define => wantK 1 l fun x l => want [58, 61] l fun _ l => bnd (go n .expr l o) fun t l => want [59] l fun _ l => .ok (tnd 18 x.1.t x.2 [t]) l
    | .simple => bnd (go n .expr l o) fun t l => if mark l = [61] then takeR l fun x l => bnd (go n .expr l o) fun u l => want [59] l fun _ l => .ok (nd 19 x.2 [t, u]) l
        else want [59] l fun x l => .ok (nd 20 x.2 [t]) l
    | .variable_ => want [118, 97, 114] l fun _ l => bnd (go n (.named 4) l o) fun t l =>
        if mark l = [61] then takeR l fun _ l => bnd (go n .expr l o) fun u l => want [59] l fun _ l => .ok (match t with | .mk a b c d e f ks => .mk a b c d e f (ks ++ [u])) l
        else want [59] l fun _ l => .ok t l
    | .named k => wantK 1 l fun x l => bnd (go n .typeOf l o) fun t l => .ok (tnd k x.1.t x.2 [t]) l
    | .param => go n (.named 12) l o
    | .typeOf =>
        if isT (mark l) then takeR l fun x l => .ok (tnd 13 x.1.t x.2 []) l
        else if mark l = [42] then takeR l fun x l => bnd (go n .typeName l o) fun t l => .ok (nd 14 x.2 [t]) l
        else if mark l = [91] then enter [91] l o fun x l => want [93] l fun _ l => bnd (go n .typeOf l o) fun t l => .ok (nd 15 x.2 [t]) l
        else if mark l = [102, 117, 110, 99] then takeR l fun x l => bnd (go n (.head .typeOf) l o) fun h l => .ok (.mk 16 0 h.num [] [] x.2 h.kids) l
        else go n .typeName l o
    | .typeName => wantK 1 l fun x l => if mark l = [46] then takeR l fun _ l => wantK 1 l fun y l => .ok (.mk 13 0 0 x.1.t y.1.t x.2 []) l
        else .ok (tnd 13 x.1.t x.2 []) l
    | .head p => bnd (go n (.within [40] [41] p) l o) fun ks l => if begins l then bnd (go n .typeOf l o) fun t l => .ok (.mk 0 0 1 [] [] 0 (ks.kids ++ [t])) l
        else .ok (lst ks.kids) l
    | .file => want [112, 97, 99, 107, 97, 103, 101] l fun x l => wantK 1 l fun y l => want [59] l fun _ l => bnd (go n (.imports []) l o) fun ks l => bnd (go n (.decls ks.kids) l o) fun ks l => .ok (tnd 1 y.1.t x.2 ks.kids) l
    | .imports acc => if mark l = [105, 109, 112, 111, 114, 116] then takeR l fun _ l => wantK 1 l fun x l => want [59] l fun _ l => go n (.imports (acc ++ [tnd 2 x.1.t x.2 []])) l o
        else .ok (lst acc) l
    | .decls acc => if kind l = 0 then .ok (lst acc) l else bnd (go n .decl l o) fun t l => go n (.decls (acc ++ [t])) l o
    | .decl =>
        if mark l = [99, 111, 110, 115, 116] then go n .constant l o
        else if mark l = [118, 97, 114] then go n .variable_ l o
        else if mark l = [116, 121, 112, 101] then go n .declaredType l o
        else if mark l = [102, 117, 110, 99] then go n .declaredFunc l o
        else refuse l
    | .constant => want [99, 111, 110, 115, 116] l fun _ l => wantK 1 l fun x l => want [61] l fun _ l =>
        if mark l = [45] then takeR l fun _ l => wantK 3 l fun y l => want [59] l fun _ l => .ok (.mk 3 0 (-y.1.n) [] x.1.t x.2 []) l
        else wantK 3 l fun y l => want [59] l fun _ l => .ok (.mk 3 0 y.1.n [] x.1.t x.2 []) l
    | .declaredType => want [116, 121, 112, 101] l fun _ l => wantK 1 l fun x l =>
        if mark l = [115, 116, 114, 117, 99, 116] then takeR l fun _ l => enter [123] l o fun _ l => bnd (go n (.parts .field []) l (o + 1)) fun ks l => want [125] l fun _ l => .ok (tnd 5 x.1.t x.2 ks.kids) l
        else if mark l = [105, 110, 116, 101, 114, 102, 97, 99, 101] then takeR l fun _ l => enter [123] l o fun _ l => bnd (go n (.parts .sig []) l (o + 1)) fun ks l => want [125] l fun _ l => .ok (tnd 7 x.1.t x.2 ks.kids) l
        else refuse l
    | .parts p acc => if mark l = [125] then .ok (lst acc) l else bnd (go n p.nt l o) fun t l => go n (.parts p (acc ++ [t])) l o
    | .field => bnd (go n (.named 6) l o) fun t l => want [59] l fun _ l => .ok t l
    | .sig => wantK 1 l fun x l => bnd (go n (.head .typeOf) l o) fun h l => want [59] l fun _ l => .ok (.mk 8 0 h.num [] x.1.t x.2 h.kids) l
    | .declaredFunc => want [102, 117, 110, 99] l fun _ l =>
        if mark l = [40] then bnd (go n .receiver l o) fun t l => wantK 1 l fun x l => bnd (go n (.head .param) l o) fun h l => bnd (go n .block l o) fun u l => .ok (.mk 10 0 h.num [] x.1.t x.2 (t :: h.kids ++ [u])) l
        else wantK 1 l fun x l =>
          if mark l = [91] then enter [91] l o fun _ l => bnd (go n (.list .typeVar) l (o + 1)) fun ks l => want [93] l fun _ l => bnd (go n (.head .param) l o) fun h l => bnd (go n .block l o) fun u l => .ok (.mk 9 0 h.num [] x.1.t x.2 (ks.kids ++ h.kids ++ [u])) l
          else bnd (go n (.head .param) l o) fun h l => bnd (go n .block l o) fun u l => .ok (.mk 9 0 h.num [] x.1.t x.2 (h.kids ++ [u])) l
    | .receiver => enter [40] l o fun _ l => wantK 1 l fun x l => want [42] l fun y l => wantK 1 l fun z l => want [41] l fun _ l => .ok (tnd 12 x.1.t x.2 [nd 14 y.2 [tnd 13 z.1.t z.2 []]]) l
    | .typeVar => wantK 1 l fun x l =>
        if mark l = [97, 110, 121] then takeR l fun _ l => .ok (tnd 11 x.1.t x.2 []) l
        else if mark l = [99, 111, 109, 112, 97, 114, 97, 98, 108, 101] then takeR l fun _ l => .ok (.mk 11 0 1 [] x.1.t x.2 []) l
        else bnd (go n .typeName l o) fun t l => .ok (.mk 11 0 2 [] x.1.t x.2 [t]) l
end Go.Proofs.YtihnnbeepfgphaaGreatDoor
