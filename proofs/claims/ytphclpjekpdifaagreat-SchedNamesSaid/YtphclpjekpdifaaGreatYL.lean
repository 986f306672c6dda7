import Derived.Test.YtphclpjekpdifaaGreatYG
import Derived.Test.YtphclpjekpdifaaGreatYA
import Derived.Test.YtphclpjekpdifaaGreatYH
import Derived.Test.YtphclpjekpdifaaGreatYK
import Derived.Maps.RangeWalk
import Derived.Maps.AppendAt
import Derived.Sort.KeysCollected
import Derived.LoopTactic
import Derived.Deep.RegionHeld3
import Derived.Deep.RegionWith
namespace Go.Proofs.YtphclpjekpdifaaGreat.PS
set_option linter.unusedVariables false
open Go.Proofs.YtphclpjekpdifaaGreat.Vc (fitB I64)
open Go.Proofs.YtphclpjekpdifaaGreat.Wi.Pl (It)
abbrev Tx := List UInt8
structure Nod where
  s : Tx
  a : Int
  b : Int
  c : Int
  x : Int
  y : Int
  z : Int
  n : Int
  d : Bool
structure Ten where
  s : Tx
  a : Int
  b : Int
  c : Int
  x : Int
  y : Int
  z : Int
  n : Int
structure Jb where
  s : Tx
  t : Tx
  p : Int
  q : Int
  r : Int
  on : Tx
  st : Int
structure St where
  N : List (Tx × Nod)
  T : List (Tx × Ten)
  J : List (Tx × Jb)
structure Rp where
  e : Int
  s : Tx
  a : Int
  b : Int
  c : Int
  n : Int
structure Cm where
  o : Int
  s : Tx
  t : Tx
  a : Int
  b : Int
  c : Int
  n : Int
def zn : Nod := ⟨[], 0, 0, 0, 0, 0, 0, 0, false⟩
def zt : Ten := ⟨[], 0, 0, 0, 0, 0, 0, 0⟩
def zj : Jb := ⟨[], [], 0, 0, 0, [], 0⟩
def err (e : Int) : Rp := ⟨e, [], 0, 0, 0, 0⟩
def putM {α : Type} (k : Tx) (v : α) : List (Tx × α) → List (Tx × α)
  | [] => [(k, v)]
  | e :: r => if bytesBefore k e.1 = true then (k, v) :: e :: r else e :: putM k v r
def dropM {α : Type} (k : Tx) (l : List (Tx × α)) : List (Tx × α) := l.filter fun e => !(e.1 == k)
def setM {α : Type} (k : Tx) (v : α) (l : List (Tx × α)) : List (Tx × α) := putM k v (dropM k l)
def findM {α : Type} (l : List (Tx × α)) (k : Tx) : Option α := (l.find? fun e => e.1 == k).map (·.2)
def insK (k : Tx) : List Tx → List Tx
  | [] => [k]
  | x :: r => if Nm.Pl.less k x = true then k :: x :: r else x :: insK k r
def sortK (l : List Tx) : List Tx := l.foldr insK []
def byName {α : Type} (l : List (Tx × α)) : List α := (sortK (l.map (·.1))).filterMap (findM l)
def kOf (s : Tx) : Tx := Nm.keyOf s
def setNode (S : St) (s : Tx) (a b c : Int) : St × Int :=
  match findM S.N (kOf s) with
  | some n => if fitB n.x n.y n.z a b c = true then ({ S with N := setM (kOf n.s) ⟨n.s, a, b, c, n.x, n.y, n.z, n.n, n.d⟩ S.N }, 0) else (S, 14)
  | none => if 32 ≤ S.N.length then (S, 3) else if fitB 0 0 0 a b c = true then ({ S with N := setM (kOf s) ⟨s, a, b, c, 0, 0, 0, 0, false⟩ S.N }, 0) else (S, 14)
def setTenant (S : St) (s : Tx) (a b c : Int) : St × Int :=
  match findM S.T (kOf s) with
  | some n => if fitB n.x n.y n.z a b c = true then ({ S with T := setM (kOf n.s) ⟨n.s, a, b, c, n.x, n.y, n.z, n.n⟩ S.T }, 0) else (S, 13)
  | none => if 32 ≤ S.T.length then (S, 3) else if fitB 0 0 0 a b c = true then ({ S with T := setM (kOf s) ⟨s, a, b, c, 0, 0, 0, 0⟩ S.T }, 0) else (S, 13)
def drain (S : St) (s : Tx) (n : Int) : St × Int :=
  match findM S.N (kOf s) with
  | some x => ({ S with N := setM (kOf x.s) ⟨x.s, x.a, x.b, x.c, x.x, x.y, x.z, x.n, n == 1⟩ S.N }, 0)
  | none => (S, 10)
def drop (S : St) (s : Tx) : St × Int :=
  match findM S.N (kOf s) with
  | some x => if 0 < x.n then (S, 14) else ({ S with N := dropM (kOf x.s) S.N }, 0)
  | none => (S, 10)
def in3 (x y z : Int) : Bool := decide (I64 x) && (decide (I64 y) && decide (I64 z))
def o1 (x y z : Int) : Int := if in3 x y z = true then x else 0
def o2 (x y z : Int) : Int := if in3 x y z = true then y else 0
def o3 (x y z : Int) : Int := if in3 x y z = true then z else 0
def refuseT (t : Ten) (p q r : Int) : Int :=
  if in3 (t.x + p) (t.y + q) (t.z + r) = true then (if fitB (t.x + p) (t.y + q) (t.z + r) t.a t.b t.c = true then 0 else 13) else 6
def refusal (S : St) (s t : Tx) (p q r : Int) : Int :=
  if (findM S.J (kOf s)).isSome = true then 11 else if 128 ≤ S.J.length then 3 else
  match findM S.T (kOf t) with
  | none => 10
  | some x => refuseT x p q r
def row (n : Nod) : Nd := ⟨n.s, n.a, n.b, n.c, n.x, n.y, n.z, n.d⟩
def krow (n : Nod) : Nd := ⟨kOf n.s, n.a, n.b, n.c, n.x, n.y, n.z, n.d⟩
def rankF (L : List Nd) (p q r : Int) : List Nat := (cand L p q r L.length).foldr (insR (bef (scL L p q r) (nmL L))) []
def choose (S : St) (p q r : Int) : Option Nod :=
  if fitB 0 0 0 p q r = true then
    match rankF ((byName S.N).map krow) p q r with
    | [] => none
    | i :: _ => (byName S.N)[i]?
  else none
def takeN (n : Nod) (p q r : Int) : Nod := ⟨n.s, n.a, n.b, n.c, o1 (n.x + p) (n.y + q) (n.z + r), o2 (n.x + p) (n.y + q) (n.z + r), o3 (n.x + p) (n.y + q) (n.z + r), IntKind.i64.wrap (n.n + 1), n.d⟩
def takeT (n : Ten) (p q r : Int) : Ten := ⟨n.s, n.a, n.b, n.c, o1 (n.x + p) (n.y + q) (n.z + r), o2 (n.x + p) (n.y + q) (n.z + r), o3 (n.x + p) (n.y + q) (n.z + r), IntKind.i64.wrap (n.n + 1)⟩
def freeN (n : Nod) (p q r : Int) : Nod := ⟨n.s, n.a, n.b, n.c, o1 (n.x - p) (n.y - q) (n.z - r), o2 (n.x - p) (n.y - q) (n.z - r), o3 (n.x - p) (n.y - q) (n.z - r), IntKind.i64.wrap (n.n - 1), n.d⟩
def freeT (n : Ten) (p q r : Int) : Ten := ⟨n.s, n.a, n.b, n.c, o1 (n.x - p) (n.y - q) (n.z - r), o2 (n.x - p) (n.y - q) (n.z - r), o3 (n.x - p) (n.y - q) (n.z - r), IntKind.i64.wrap (n.n - 1)⟩
def tenOf (S : St) (t : Tx) : Ten := (findM S.T (kOf t)).getD zt
def nodOf (S : St) (t : Tx) : Nod := (findM S.N (kOf t)).getD zn
def create (S : St) (s t : Tx) (p q r : Int) (n : Nod) : St :=
  ⟨setM (kOf n.s) (takeN n p q r) S.N, setM (kOf (tenOf S t).s) (takeT (tenOf S t) p q r) S.T, setM (kOf s) ⟨s, (tenOf S t).s, p, q, r, n.s, 0⟩ S.J⟩
def submit (S : St) (s t : Tx) (p q r : Int) : St × Rp :=
  if refusal S s t p q r = 0 then
    match choose S p q r with
    | none => (S, err 12)
    | some n => (create S s t p q r n, ⟨0, n.s, 0, 0, 0, 0⟩)
  else (S, err (refusal S s t p q r))
def kill (S : St) (s : Tx) : St × Rp :=
  match findM S.J (kOf s) with
  | none => (S, err 10)
  | some j => (⟨setM (kOf (nodOf S j.on).s) (freeN (nodOf S j.on) j.p j.q j.r) S.N, setM (kOf (tenOf S j.t).s) (freeT (tenOf S j.t) j.p j.q j.r) S.T, dropM (kOf j.s) S.J⟩, ⟨0, j.on, 0, 0, 0, 0⟩)
def report (S : St) (s t : Tx) (n : Int) : St × Int :=
  match findM S.J (kOf s) with
  | none => (S, 10)
  | some j => if kOf j.on = kOf t then ({ S with J := setM (kOf j.s) ⟨j.s, j.t, j.p, j.q, j.r, j.on, n⟩ S.J }, 0) else (S, 10)
def mayM (c : Cm) : Bool := Wi.mayC c.o (Nm.str c.s) (Nm.str c.t) c.a c.b c.c c.n
def asksM (c : Cm) : Bool := Wi.asksC c.o (Nm.str c.s) (Nm.str c.t) c.a c.b c.c c.n
def ask (S : St) (c : Cm) : Rp :=
  if asksM c = true then
    if c.o = 8 then match findM S.J (kOf c.s) with
      | some j => ⟨0, j.on, j.p, j.q, j.r, j.st⟩
      | none => err 10
    else if c.o = 9 then match findM S.N (kOf c.s) with
      | some n => ⟨0, [], n.x, n.y, n.z, n.n⟩
      | none => err 10
    else match findM S.T (kOf c.s) with
      | some n => ⟨0, [], n.x, n.y, n.z, n.n⟩
      | none => err 10
  else err 4
def e1 (x : St × Int) : St × Rp := (x.1, err x.2)
def doC (S : St) (c : Cm) : St × Rp :=
  if mayM c = true then
    if c.o = 1 then e1 (setNode S c.s c.a c.b c.c)
    else if c.o = 2 then e1 (drain S c.s c.n)
    else if c.o = 3 then e1 (drop S c.s)
    else if c.o = 4 then e1 (setTenant S c.s c.a c.b c.c)
    else if c.o = 5 then submit S c.s c.t c.a c.b c.c
    else if c.o = 6 then kill S c.s
    else if c.o = 7 then e1 (report S c.s c.t c.n)
    else (S, ask S c)
  else (S, err 4)
def nI (n : Int) : It := .mk 1 n ⟨#[]⟩ []
def sI (s : Tx) : It := .mk 2 0 (Nm.str s) []
def lI (l : List It) : It := .mk 3 0 ⟨#[]⟩ l
def vI (a b c : Int) : It := lI [nI a, nI b, nI c]
def nodI (n : Nd) : It := lI [sI n.s, vI n.a n.b n.c, nI (if n.d = true then 1 else 0)]
def tenI (n : Ten) : It := lI [sI n.s, vI n.a n.b n.c]
def jobI (j : Jb) : It := lI [sI j.s, sI j.t, vI j.p j.q j.r, sI j.on, nI j.st]
def item (S : St) : It := lI [lI ((byName S.N).map fun n => nodI (row n)), lI ((byName S.T).map tenI), lI ((byName S.J).map jobI)]
def save (S : St) : Tx := if Wi.errOf (item S) = 0 then (item S).enc else []
def s0 : St := ⟨[], [], []⟩
def zI : It := .mk 0 0 ⟨#[]⟩ []
def els : It → List It
  | .mk _ _ _ l => l
def num : It → Int
  | .mk _ n _ _ => n
def txt : It → Tx
  | .mk _ _ s _ => s.data.toList
def part (t : It) (k : Nat) : It := (els t)[k]?.getD zI
def done (S : St) (c : Cm) : St × Bool := ((doC S c).1, (doC S c).2.e == 0)
def each (f : St → It → St × Bool) : St → List It → St × Bool
  | S, [] => (S, true)
  | S, x :: r => if (f S x).2 = true then each f (f S x).1 r else ((f S x).1, false)
def vOf (t : It) (k : Nat) : Int := num (part t k)
def resN (S : St) (n : It) : St × Bool := done S ⟨1, txt (part n 0), [], vOf (part n 1) 0, vOf (part n 1) 1, vOf (part n 1) 2, 0⟩
def resT (S : St) (n : It) : St × Bool := done S ⟨4, txt (part n 0), [], vOf (part n 1) 0, vOf (part n 1) 1, vOf (part n 1) 2, 0⟩
def resD (S : St) (n : It) : St × Bool := done S ⟨2, txt (part n 0), [], 0, 0, 0, num (part n 2)⟩
def resJ (S : St) (j : It) : St × Bool :=
  match findM S.N (kOf (txt (part j 3))) with
  | none => (S, false)
  | some n =>
    if mayM ⟨5, txt (part j 0), txt (part j 1), vOf (part j 2) 0, vOf (part j 2) 1, vOf (part j 2) 2, 0⟩ = true ∧ refusal S (txt (part j 0)) (txt (part j 1)) (vOf (part j 2) 0) (vOf (part j 2) 1) (vOf (part j 2) 2) = 0 ∧ ntakes (row n) (vOf (part j 2) 0) (vOf (part j 2) 1) (vOf (part j 2) 2) = true then
      if num (part j 4) = 0 then (create S (txt (part j 0)) (txt (part j 1)) (vOf (part j 2) 0) (vOf (part j 2) 1) (vOf (part j 2) 2) n, true)
      else done (create S (txt (part j 0)) (txt (part j 1)) (vOf (part j 2) 0) (vOf (part j 2) 1) (vOf (part j 2) 2) n) ⟨7, txt (part j 0), txt (part j 3), 0, 0, 0, num (part j 4)⟩
    else (S, false)
def restore (S : St) (i : It) : St × Bool :=
  let a := each resN S (els (part i 0))
  if a.2 = true then
    let b := each resT a.1 (els (part i 1))
    if b.2 = true then
      let c := each resJ b.1 (els (part i 2))
      if c.2 = true then each resD c.1 (els (part i 0)) else c
    else b
  else a
def load (text : Tx) : Option St :=
  match Wi.Pl.dec text with
  | none => none
  | some i => if (restore s0 i).2 = true ∧ save (restore s0 i).1 = text then some (restore s0 i).1 else none
end Go.Proofs.YtphclpjekpdifaaGreat.PS
namespace Go.Proofs.YtphclpjekpdifaaGreat
set_option maxRecDepth 20000
open Go.RowKit
open Go.Maps (Keyed)
open PS (Tx putM dropM setM findM Nod Ten Jb)
open Go.Proofs.YtphclpjekpdifaaGreat.Nm (str)
set_option linter.unusedVariables false
theorem law9 : Keyed Tryz.prog 9 := Go.Maps.string_keyed Tryz.underlying9
def R0 (v : Value) : Option (DataW Value × List MemPlace) := some (.held v, [])
def encL {α : Type} (f : α → Value) (l : List (Tx × α)) : List (Lit × DataW Value) := l.map fun p => (.string p.1, .held (f p.2))
def encM {α : Type} (f : α → Value) (l : List (Tx × α)) : DataW Value := .map (encL f l)
def MapAt {α : Type} (f : α → Value) (w : World) (b : Nat) (l : List (Tx × α)) : Prop := w.ownsMap Tryz.prog 9 R0 b l.length (encM f l)
theorem key9 {k : Tx} (h : k.length ≤ maxLen) : keyOf Tryz.prog 9 (.string (str k)) = some (.string k) :=
  Go.WideMaps.keyOf_string_mk Tryz.underlying9 (by rw [Nm.str_size]; exact h)
theorem enc_insert {α : Type} (f : α → Value) (k : Tx) (v : α) (l : List (Tx × α)) : DataW.insert (.string k, .held (f v)) (encL f l) = encL f (putM k v l) := by
  induction l with
  | nil => rfl
  | cons q r ih =>
    show (if bytesBefore k q.1 = true then _ else _) = encL f (if _ then _ else _)
    split
    · rfl
    · show _ :: DataW.insert _ (encL f r) = _
      rw [ih]; rfl
theorem enc_filter {α : Type} (f : α → Value) (k : Tx) (l : List (Tx × α)) : (encL f l).filter (fun q => !q.1.sameKey (.string k)) = encL f (dropM k l) := by
  unfold encL dropM
  rw [List.filter_map]; rfl
theorem enc_find {α : Type} (f : α → Value) (l : List (Tx × α)) (k : Tx) : (encL f l).find? (fun q => q.1.sameKey (.string k)) = (l.find? fun e => e.1 == k).map fun p => (.string p.1, .held (f p.2)) := by
  unfold encL
  rw [List.find?_map]; rfl
def valAt {α : Type} (f : α → Value) (z : Value) (o : Option α) : Value := match o with | some p => f p | none => z
theorem enc_at {α : Type} (f : α → Value) (l : List (Tx × α)) (k : Tx) (z : Value) : (encM f l).atKey (.string k) (.held z) = .held (valAt f z (findM l k)) := by
  unfold encM DataW.atKey findM
  dsimp only
  rw [enc_find]
  cases l.find? fun e => e.1 == k <;> rfl
theorem enc_has {α : Type} (f : α → Value) (l : List (Tx × α)) (k : Tx) : Maps.has (encM f l) (.string k) = (findM l k).isSome := by
  show (encL f l).any (fun q => q.1.sameKey (.string k)) = _
  unfold encL findM
  rw [List.any_map, Option.isSome_map]
  induction l with
  | nil => rfl
  | cons q r ih =>
    rw [List.any_cons, List.find?_cons, ih]
    have e : ((fun q : Lit × DataW Value => q.1.sameKey (.string k)) ∘ fun p : Tx × α => (Lit.string p.1, DataW.held (f p.2))) q = (q.1 == k) := rfl
    rw [e]
    cases q.1 == k <;> simp
theorem norm_map {w : World} {b n : Nat} {D : DataW Value} (h : w.ownsMap Tryz.prog 9 R0 b n D) : w.ownsMap Tryz.prog 9 R0 b (Maps.size D) D := by
  obtain ⟨es, clock, h1, h2, h3, h4⟩ := h
  refine ⟨es, clock, h1, h2, ?_, h4⟩
  rw [h4]
  show _ ≤ List.length _
  rw [length_sorted]; simp
theorem size_enc {α : Type} (f : α → Value) (l : List (Tx × α)) : Maps.size (encM f l) = l.length := by
  show (encL f l).length = _
  simp [encL]
theorem MapAt.of {α : Type} {f : α → Value} {w : World} {b n : Nat} {l : List (Tx × α)} (h : w.ownsMap Tryz.prog 9 R0 b n (encM f l)) : MapAt f w b l := by
  have := norm_map h
  rw [size_enc] at this
  exact this
theorem MapAt.made {α : Type} (f : α → Value) (w : World) : MapAt f (w.alloc (.map #[] 0)) w.heap.size [] := World.ownsMap_made w Tryz.prog 9 R0
theorem MapAt.keep {α : Type} {f : α → Value} {w w' : World} {b : Nat} {l : List (Tx × α)} (h : MapAt f w b l) (hk : w'.heap[b]? = w.heap[b]?) : MapAt f w' b l := by
  obtain ⟨es, clock, h1, h2⟩ := h
  exact ⟨es, clock, hk.trans h1, h2⟩
theorem MapAt.block {α : Type} {f : α → Value} {w : World} {b : Nat} {l : List (Tx × α)} (h : MapAt f w b l) : ∃ es c, w.heap[b]? = some (.map es c) := by
  obtain ⟨es, clock, h1, h2⟩ := h
  exact ⟨es, clock, h1⟩
theorem MapAt.lt {α : Type} {f : α → Value} {w : World} {b : Nat} {l : List (Tx × α)} (h : MapAt f w b l) : b < w.heap.size := by
  obtain ⟨es, c, h1⟩ := h.block
  exact (Array.getElem?_eq_some_iff.1 h1).1
theorem MapAt.look2 {α : Type} {f : α → Value} {w : World} {b : Nat} {l : List (Tx × α)} (h : MapAt f w b l) {t e : Nat} {z : Value} (ht : Tryz.prog.underlying t = some (.map 9 e)) (hz : (zeroValue e).run Tryz.prog w = .ok z w) {k : Tx} (hn : k.length ≤ maxLen) :
    (Instr.lookup t (.map (some b)) (.string (str k)) true).run Tryz.prog w = .ok (.tuple #[valAt f z (findM l k), .bool (findM l k).isSome]) w := by
  obtain ⟨v, q, hrun, hv⟩ := World.ownsMap.look_ok (t := t) (e := e) h law9 ht hz (zd := .held z) (zp := []) rfl (key9 hn)
  rw [enc_at] at hv
  rw [enc_has] at hrun
  have hv : R0 v = some (.held (valAt f z (findM l k)), q) := hv
  unfold R0 at hv
  simp only [Option.some.injEq, Prod.mk.injEq, DataW.held.injEq] at hv
  rw [hv.1] at hrun
  exact hrun
theorem MapAt.look1 {α : Type} {f : α → Value} {w : World} {b : Nat} {l : List (Tx × α)} (h : MapAt f w b l) {t e : Nat} {z : Value} (ht : Tryz.prog.underlying t = some (.map 9 e)) (hz : (zeroValue e).run Tryz.prog w = .ok z w) {k : Tx} (hn : k.length ≤ maxLen) :
    (Instr.lookup t (.map (some b)) (.string (str k)) false).run Tryz.prog w = .ok (valAt f z (findM l k)) w := by
  obtain ⟨v, q, hrun, hv⟩ := World.ownsMap.lookup (t := t) (e := e) h law9 ht hz (zd := .held z) (zp := []) rfl (key9 hn)
  rw [enc_at] at hv
  have hv : R0 v = some (.held (valAt f z (findM l k)), q) := hv
  unfold R0 at hv
  simp only [Option.some.injEq, Prod.mk.injEq, DataW.held.injEq] at hv
  rw [hv.1] at hrun
  exact hrun
theorem nil_look2 (w : World) {t e : Nat} {z : Value} (ht : Tryz.prog.underlying t = some (.map 9 e)) (hz : (zeroValue e).run Tryz.prog w = .ok z w) {k : Tx} (hn : k.length ≤ maxLen) :
    (Instr.lookup t (.map none) (.string (str k)) true).run Tryz.prog w = .ok (.tuple #[z, .bool false]) w :=
  Maps.look_nil (t := t) (e := e) true law9 ht hz (key9 hn)
theorem MapAt.store {α : Type} {f : α → Value} {w : World} {b : Nat} {l : List (Tx × α)} (h : MapAt f w b l) {t e : Nat} (ht : Tryz.prog.underlying t = some (.map 9 e)) {k : Tx} (hn : k.length ≤ maxLen) (hl : l.length < maxLen) (v : α) :
    ∃ w', (Instr.mapUpdate t (.map (some b)) (.string (str k)) (f v)).run Tryz.prog w = .ok () w' ∧ MapAt f w' b (setM k v l) ∧ w.grownBy w' (some b) ∧ w'.heap.size = w.heap.size := by
  obtain ⟨w', h1, h2, h3⟩ := World.ownsMap.store (t := t) (e := e) h law9 ht hl (key9 hn) (val := f v) (d := .held (f v)) (ps := []) rfl
  refine ⟨w', h1, ?_, h3.grown, ?_⟩
  · have e : (encM f l).put (.string k) (.held (f v)) = encM f (setM k v l) := by
      show DataW.map (DataW.insert _ ((encL f l).filter _)) = _
      rw [enc_filter, enc_insert]; rfl
    rw [e] at h2
    exact MapAt.of h2
  · obtain ⟨es, c, es', c', _, rfl⟩ := h3
    simp [ChangeMaps.setBlock]
theorem MapAt.del {α : Type} {f : α → Value} {w : World} {b : Nat} {l : List (Tx × α)} (h : MapAt f w b l) {t e : Nat} (ht : Tryz.prog.underlying t = some (.map 9 e)) {k : Tx} (hn : k.length ≤ maxLen) (ty : TypeId) :
    ∃ w', (Builtin.delete_ #[t, 9] ty #[.map (some b), .string (str k)]).run Tryz.prog w = .ok (.tuple #[]) w' ∧ MapAt f w' b (dropM k l) ∧ w.grownBy w' (some b) ∧ w'.heap.size = w.heap.size := by
  obtain ⟨w', h1, h2, h3⟩ := World.ownsMap.drop (t := t) (e := e) h law9 ht (key9 hn) ty
  refine ⟨w', h1, ?_, h3.grown, ?_⟩
  · have e : (encM f l).del (.string k) = encM f (dropM k l) := by
      show DataW.map ((encL f l).filter _) = _
      rw [enc_filter]; rfl
    rw [e] at h2
    exact MapAt.of h2
  · obtain ⟨es, c, es', c', _, rfl⟩ := h3
    simp [ChangeMaps.setBlock]
theorem MapAt.len {α : Type} {f : α → Value} {w : World} {b : Nat} {l : List (Tx × α)} (h : MapAt f w b l) {t e : Nat} (ht : Tryz.prog.underlying t = some (.map 9 e)) (ty : TypeId) : (Builtin.len_ #[t] ty #[.map (some b)]).run Tryz.prog w = .ok (.int .i64 (l.length : Nat)) w := by
  have := World.ownsMap.len (t := t) (e := e) h ht ty
  rw [size_enc] at this
  exact this
theorem nil_len (w : World) {t e : Nat} (ht : Tryz.prog.underlying t = some (.map 9 e)) (ty : TypeId) : (Builtin.len_ #[t] ty #[.map none]).run Tryz.prog w = .ok (.int .i64 0) w := Maps.len_nil (t := t) (e := e) ht ty
theorem enc_keys {α : Type} (f : α → Value) (l : List (Tx × α)) : strKeys (encM f l) = l.map (·.1) := by
  show (encL f l).map _ = _
  unfold encL
  rw [List.map_map]; rfl
def strike (left : Lit → Bool) (k : Tx) : Lit → Bool := fun z => left z && !z.sameKey (.string k)
def Rng {α : Type} (f : α → Value) (w : World) (m r k : Nat) (l : List (Tx × α)) (left : Lit → Bool) (cnt : Nat) : Prop := w.ranges Tryz.prog 9 R0 m r k (encM f l) left cnt
theorem findM_mem {α : Type} {l : List (Tx × α)} {k : Tx} {v : α} (h : findM l k = some v) : (k, v) ∈ l := by
  unfold findM at h
  obtain ⟨e, he, rfl⟩ := Option.map_eq_some_iff.1 h
  have h1 := List.mem_of_find?_eq_some he
  have h2 := List.find?_some he
  have : e.1 = k := by simpa using h2
  rw [← this]
  exact h1
theorem wp_next_things {α : Type} {f : α → Value} {ops : Array Oper} {rest : List Oper} {o : Oper} {a : Act} {Q : Exit → Act → World → Prop} {w : World} (hg : o.guard = none) (it : Operand) (hop : o.op = Op.next it false) (m r n : Nat) (l : List (Tx × α)) (left : Lit → Bool) (cnt : Nat)
    (hit : a.eval it = .pointer (some ⟨r, 0, none⟩)) (h : Rng f w m r n l left cnt)
    (hDone : (∀ kl, left kl = false) → wpList Tryz.prog ops Q rest (a.put o.dst (.tuple #[.bool false])) w)
    (hMore : ∀ (k : Tx) (v : α) (w' : World) (cnt' : Nat), findM l k = some v → left (.string k) = true → k.length ≤ maxLen → Rng f w' m r n l (strike left k) cnt' → cnt' < cnt →
      w.grownBy w' (some r) → w'.heap.size = w.heap.size → (Instr.entry (.pointer (some ⟨r, 0, none⟩))).run Tryz.prog w' = .ok (.tuple #[.string (str k), f v]) w' →
      wpList Tryz.prog ops Q rest (a.put o.dst (.tuple #[.bool true, .string (str k), f v])) w') :
    wpList Tryz.prog ops Q (o :: rest) a w := by
  refine wpList_next_ranges (β := Value) w hg it hop 9 law9 R0 encStr id (fun key kl hk => by obtain ⟨x, hx, _⟩ := Maps.keyOf_str Tryz.underlying9 hk; exact ⟨x, hx⟩) (fun v y hv => ⟨v, rfl⟩) m r n (encM f l) left cnt hit h (fun _ hl => hDone hl) ?_
  intro x v kl y w' cnt' hkey hlk hv hat hrg hlt hgr hsz hen
  obtain ⟨x', ex, rfl, hx⟩ := Maps.keyOf_str Tryz.underlying9 hkey
  obtain rfl : x = x' := encStr_inj ex
  have e1 := hat (.held (.bool false))
  rw [enc_at] at e1
  have hv : some (DataW.held v, ([] : List MemPlace)) = some y := hv
  have e2 : y.1 = .held v := by rw [← Option.some.inj hv]
  rw [e2] at e1
  injection e1 with e1
  have hhas := Maps.has_true_of_atKey hat
  rw [enc_has] at hhas
  obtain ⟨p, hp⟩ := Option.isSome_iff_exists.1 hhas
  rw [hp] at e1
  have e1 : v = f p := e1.symm
  subst e1
  exact hMore x p w' cnt' hp hlk hx hrg hlt hgr hsz hen
theorem at_any {α : Type} {f : α → Value} {l : List (Tx × α)} {k : Tx} {v : α} (hp : findM l k = some v) (zd : DataW Value) : (encM f l).atKey (.string k) zd = .held (f v) := by
  unfold findM at hp
  unfold encM DataW.atKey
  dsimp only
  rw [enc_find]
  cases hq : l.find? fun e => e.1 == k with
  | none => rw [hq] at hp; cases hp
  | some e =>
    rw [hq] at hp
    cases hp
    rfl
end Go.Proofs.YtphclpjekpdifaaGreat
namespace Go.Proofs.YtphclpjekpdifaaGreat
set_option maxRecDepth 20000
open Go.RowKit
open PS (Tx putM dropM setM findM Nod Ten Jb kOf)
open Go.Proofs.YtphclpjekpdifaaGreat.Nm (str)
open Go.Proofs.YtphclpjekpdifaaGreat.Vc (RetBelow)
set_option linter.unusedVariables false
def nodV (n : Nod) : Value := .agg #[.string (str n.s), .int .i64 n.a, .int .i64 n.b, .int .i64 n.c, .int .i64 n.x, .int .i64 n.y, .int .i64 n.z, .int .i64 n.n, .bool n.d]
def tenV (n : Ten) : Value := .agg #[.string (str n.s), .int .i64 n.a, .int .i64 n.b, .int .i64 n.c, .int .i64 n.x, .int .i64 n.y, .int .i64 n.z, .int .i64 n.n]
def jobV (n : Jb) : Value := .agg #[.string (str n.s), .string (str n.t), .int .i64 n.p, .int .i64 n.q, .int .i64 n.r, .string (str n.on), .int .i64 n.st]
def ThAt {α : Type} (f : α → Value) (w : World) (mv : Option Nat) (l : List (Tx × α)) : Prop := (mv = none ∧ l = []) ∨ ∃ m, mv = some m ∧ MapAt f w m l
theorem ThAt.keep {α : Type} {f : α → Value} {w w' : World} {mv : Option Nat} {l : List (Tx × α)} (h : ThAt f w mv l) (hk : ∀ m, mv = some m → w'.heap[m]? = w.heap[m]?) : ThAt f w' mv l := by
  rcases h with h | ⟨m, e, hm⟩
  · exact .inl h
  · exact .inr ⟨m, e, hm.keep (hk m e)⟩
theorem ThAt.below {α : Type} {f : α → Value} {w w' : World} {mv : Option Nat} {l : List (Tx × α)} (h : ThAt f w mv l) (hb : Below w.heap.size w w') : ThAt f w' mv l := by
  rcases h with h | ⟨m, e, hm⟩
  · exact .inl h
  · exact .inr ⟨m, e, hm.keep (hb.block m hm.lt)⟩
theorem valAt_getD {α : Type} (f : α → Value) (z : α) (o : Option α) : valAt f (f z) o = f (o.getD z) := by cases o <;> rfl
theorem ThAt.look {α : Type} {f : α → Value} {w : World} {mv : Option Nat} {l : List (Tx × α)} (h : ThAt f w mv l) {t e : Nat} {z : α} (ht : Tryz.prog.underlying t = some (.map 9 e)) (hz : (zeroValue e).run Tryz.prog w = .ok (f z) w) {k : Tx} (hn : k.length ≤ maxLen) :
    (Instr.lookup t (.map mv) (.string (str k)) true).run Tryz.prog w = .ok (.tuple #[f ((findM l k).getD z), .bool (findM l k).isSome]) w := by
  rcases h with ⟨rfl, rfl⟩ | ⟨m, rfl, hm⟩
  · exact nil_look2 w ht hz hn
  · have := hm.look2 ht hz hn
    rwa [valAt_getD] at this
theorem ThAt.len {α : Type} {f : α → Value} {w : World} {mv : Option Nat} {l : List (Tx × α)} (h : ThAt f w mv l) {t e : Nat} (ht : Tryz.prog.underlying t = some (.map 9 e)) (ty : TypeId) : (Builtin.len_ #[t] ty #[.map mv]).run Tryz.prog w = .ok (.int .i64 (l.length : Nat)) w := by
  rcases h with ⟨rfl, rfl⟩ | ⟨m, rfl, hm⟩
  · exact nil_len w ht ty
  · exact hm.len ht ty
theorem kOf_len (s : Tx) : (kOf s).length ≤ s.length := by
  show (Nm.keyOf s).length ≤ _
  unfold Nm.keyOf
  split
  · rw [Nm.key_len]; exact Nat.le_refl _
  · exact Nat.zero_le _
theorem keyOf_any (s : Tx) (w : World) (hs : s.length ≤ 281474976710656) : Calls Tryz.prog 90 #[.string (str s)] w (RetBelow (.string (str (kOf s))) w) := by
  have HK := Lib.hid (Nm.key_any (str s) w (by rw [Nm.str_size]; exact hs))
  rw [Nm.list_str] at HK
  change Hid (Calls Tryz.prog 125 _ w fun e w' => e = .returned (.tuple #[.string (str (kOf s)), .int .i64 (Nm.errOf s)]) ∧ Below w.heap.size w w') at HK
  generalize str (kOf s) = K at *
  generalize str s = S at *
  generalize Nm.errOf s = E at *
  clear hs
  go_enter Tryz.func90, Tryz.ntmps90
  go_wp2_with (go_at_call 125; (with_reducible refine HK.out.mono ?_); rintro e w1 ⟨rfl, hb⟩)
  go_ret
  exact ⟨rfl, hb⟩
theorem lt_of_cell {w : World} {b o : Nat} {v : Value} (h : w.cell? ⟨b, o, none⟩ = some v) : b < w.heap.size := by
  rw [← Nat.not_le]
  intro hn
  rw [World.cell?, Array.getElem?_eq_none hn] at h
  cases h
theorem cellB {w X : World} {B b o : Nat} {v : Value} (h : w.cell? ⟨b, o, none⟩ = some v) (hb : Below B w X) (hl : b < B) : X.cell? ⟨b, o, none⟩ = some v := by rw [← h]; exact hb.cell (p := ⟨b, o, none⟩) hl
theorem rowc7 {w : World} {b : Nat} {a0 a1 a2 a3 a4 a5 a6 : Value} {t : TypeId} (h : w.heap[b]? = some (.cells #[a0, a1, a2, a3, a4, a5, a6] t (0, 0))) :
    w.cell? ⟨b, 0, none⟩ = some a0 ∧ w.cell? ⟨b, 1, none⟩ = some a1 ∧ w.cell? ⟨b, 2, none⟩ = some a2 ∧ w.cell? ⟨b, 3, none⟩ = some a3 ∧ w.cell? ⟨b, 4, none⟩ = some a4 ∧ w.cell? ⟨b, 5, none⟩ = some a5 ∧ w.cell? ⟨b, 6, none⟩ = some a6 ∧ w.frozen? ⟨b, 0, none⟩ = false ∧ w.frozen? ⟨b, 1, none⟩ = false ∧ w.frozen? ⟨b, 2, none⟩ = false ∧ w.frozen? ⟨b, 3, none⟩ = false ∧ w.frozen? ⟨b, 4, none⟩ = false ∧ w.frozen? ⟨b, 5, none⟩ = false ∧ w.frozen? ⟨b, 6, none⟩ = false := by
  refine ⟨?_, ?_, ?_, ?_, ?_, ?_, ?_, ?_, ?_, ?_, ?_, ?_, ?_, ?_⟩
  all_goals first | exact Lib.frozen_of_heap h _ | (rw [Lib.cell_of_heap h]; rfl)
theorem rowc8 {w : World} {b : Nat} {a0 a1 a2 a3 a4 a5 a6 a7 : Value} {t : TypeId} (h : w.heap[b]? = some (.cells #[a0, a1, a2, a3, a4, a5, a6, a7] t (0, 0))) :
    w.cell? ⟨b, 0, none⟩ = some a0 ∧ w.cell? ⟨b, 1, none⟩ = some a1 ∧ w.cell? ⟨b, 2, none⟩ = some a2 ∧ w.cell? ⟨b, 3, none⟩ = some a3 ∧ w.cell? ⟨b, 4, none⟩ = some a4 ∧ w.cell? ⟨b, 5, none⟩ = some a5 ∧ w.cell? ⟨b, 6, none⟩ = some a6 ∧ w.cell? ⟨b, 7, none⟩ = some a7 ∧ w.frozen? ⟨b, 0, none⟩ = false ∧ w.frozen? ⟨b, 1, none⟩ = false ∧ w.frozen? ⟨b, 2, none⟩ = false ∧ w.frozen? ⟨b, 3, none⟩ = false ∧ w.frozen? ⟨b, 4, none⟩ = false ∧ w.frozen? ⟨b, 5, none⟩ = false ∧ w.frozen? ⟨b, 6, none⟩ = false ∧ w.frozen? ⟨b, 7, none⟩ = false := by
  refine ⟨?_, ?_, ?_, ?_, ?_, ?_, ?_, ?_, ?_, ?_, ?_, ?_, ?_, ?_, ?_, ?_⟩
  all_goals first | exact Lib.frozen_of_heap h _ | (rw [Lib.cell_of_heap h]; rfl)
theorem rowc9 {w : World} {b : Nat} {a0 a1 a2 a3 a4 a5 a6 a7 a8 : Value} {t : TypeId} (h : w.heap[b]? = some (.cells #[a0, a1, a2, a3, a4, a5, a6, a7, a8] t (0, 0))) :
    w.cell? ⟨b, 0, none⟩ = some a0 ∧ w.cell? ⟨b, 1, none⟩ = some a1 ∧ w.cell? ⟨b, 2, none⟩ = some a2 ∧ w.cell? ⟨b, 3, none⟩ = some a3 ∧ w.cell? ⟨b, 4, none⟩ = some a4 ∧ w.cell? ⟨b, 5, none⟩ = some a5 ∧ w.cell? ⟨b, 6, none⟩ = some a6 ∧ w.cell? ⟨b, 7, none⟩ = some a7 ∧ w.cell? ⟨b, 8, none⟩ = some a8 ∧ w.frozen? ⟨b, 0, none⟩ = false ∧ w.frozen? ⟨b, 1, none⟩ = false ∧ w.frozen? ⟨b, 2, none⟩ = false ∧ w.frozen? ⟨b, 3, none⟩ = false ∧ w.frozen? ⟨b, 4, none⟩ = false ∧ w.frozen? ⟨b, 5, none⟩ = false ∧ w.frozen? ⟨b, 6, none⟩ = false ∧ w.frozen? ⟨b, 7, none⟩ = false ∧ w.frozen? ⟨b, 8, none⟩ = false := by
  refine ⟨?_, ?_, ?_, ?_, ?_, ?_, ?_, ?_, ?_, ?_, ?_, ?_, ?_, ?_, ?_, ?_, ?_, ?_⟩
  all_goals first | exact Lib.frozen_of_heap h _ | (rw [Lib.cell_of_heap h]; rfl)
def wr7 (w : World) (R : Nat) (a0 a1 a2 a3 a4 a5 a6 : Value) : World := (((((((w.setCell ⟨R, 0, none⟩ a0).setCell ⟨R, 1, none⟩ a1).setCell ⟨R, 2, none⟩ a2).setCell ⟨R, 3, none⟩ a3).setCell ⟨R, 4, none⟩ a4).setCell ⟨R, 5, none⟩ a5).setCell ⟨R, 6, none⟩ a6)
theorem wr7_row {w : World} {R : Nat} {a0 a1 a2 a3 a4 a5 a6 y0 y1 y2 y3 y4 y5 y6 : Value} {t : TypeId} (h : w.heap[R]? = some (.cells #[y0, y1, y2, y3, y4, y5, y6] t (0, 0))) : (wr7 w R a0 a1 a2 a3 a4 a5 a6).heap[R]? = some (.cells #[a0, a1, a2, a3, a4, a5, a6] t (0, 0)) := by
  have h0 := Wi.heap_set _ R 0 a0 _ _ h
  have h1 := Wi.heap_set _ R 1 a1 _ _ h0
  have h2 := Wi.heap_set _ R 2 a2 _ _ h1
  have h3 := Wi.heap_set _ R 3 a3 _ _ h2
  have h4 := Wi.heap_set _ R 4 a4 _ _ h3
  have h5 := Wi.heap_set _ R 5 a5 _ _ h4
  have h6 := Wi.heap_set _ R 6 a6 _ _ h5
  unfold wr7
  simpa only [List.setIfInBounds_toArray, List.set_cons_zero, List.set_cons_succ] using h6
theorem wr7_far {w : World} {R : Nat} {a0 a1 a2 a3 a4 a5 a6 : Value} {q : Nat} (h : q ≠ R) : (wr7 w R a0 a1 a2 a3 a4 a5 a6).heap[q]? = w.heap[q]? := (Below.heap_setCell _ _ _ q h).trans ((Below.heap_setCell _ _ _ q h).trans ((Below.heap_setCell _ _ _ q h).trans ((Below.heap_setCell _ _ _ q h).trans ((Below.heap_setCell _ _ _ q h).trans ((Below.heap_setCell _ _ _ q h).trans (Below.heap_setCell _ _ _ q h))))))
theorem wr7_below {w0 w : World} {B R : Nat} {a0 a1 a2 a3 a4 a5 a6 : Value} (h : Below B w0 w) (hR : B ≤ R) : Below B w0 (wr7 w R a0 a1 a2 a3 a4 a5 a6) := by
  have h0 := h.setCell (p := ⟨R, 0, none⟩) hR a0
  have h1 := h0.setCell (p := ⟨R, 1, none⟩) hR a1
  have h2 := h1.setCell (p := ⟨R, 2, none⟩) hR a2
  have h3 := h2.setCell (p := ⟨R, 3, none⟩) hR a3
  have h4 := h3.setCell (p := ⟨R, 4, none⟩) hR a4
  have h5 := h4.setCell (p := ⟨R, 5, none⟩) hR a5
  have h6 := h5.setCell (p := ⟨R, 6, none⟩) hR a6
  exact h6
def wr8 (w : World) (R : Nat) (a0 a1 a2 a3 a4 a5 a6 a7 : Value) : World := ((((((((w.setCell ⟨R, 0, none⟩ a0).setCell ⟨R, 1, none⟩ a1).setCell ⟨R, 2, none⟩ a2).setCell ⟨R, 3, none⟩ a3).setCell ⟨R, 4, none⟩ a4).setCell ⟨R, 5, none⟩ a5).setCell ⟨R, 6, none⟩ a6).setCell ⟨R, 7, none⟩ a7)
theorem wr8_row {w : World} {R : Nat} {a0 a1 a2 a3 a4 a5 a6 a7 y0 y1 y2 y3 y4 y5 y6 y7 : Value} {t : TypeId} (h : w.heap[R]? = some (.cells #[y0, y1, y2, y3, y4, y5, y6, y7] t (0, 0))) : (wr8 w R a0 a1 a2 a3 a4 a5 a6 a7).heap[R]? = some (.cells #[a0, a1, a2, a3, a4, a5, a6, a7] t (0, 0)) := by
  have h0 := Wi.heap_set _ R 0 a0 _ _ h
  have h1 := Wi.heap_set _ R 1 a1 _ _ h0
  have h2 := Wi.heap_set _ R 2 a2 _ _ h1
  have h3 := Wi.heap_set _ R 3 a3 _ _ h2
  have h4 := Wi.heap_set _ R 4 a4 _ _ h3
  have h5 := Wi.heap_set _ R 5 a5 _ _ h4
  have h6 := Wi.heap_set _ R 6 a6 _ _ h5
  have h7 := Wi.heap_set _ R 7 a7 _ _ h6
  unfold wr8
  simpa only [List.setIfInBounds_toArray, List.set_cons_zero, List.set_cons_succ] using h7
theorem wr8_far {w : World} {R : Nat} {a0 a1 a2 a3 a4 a5 a6 a7 : Value} {q : Nat} (h : q ≠ R) : (wr8 w R a0 a1 a2 a3 a4 a5 a6 a7).heap[q]? = w.heap[q]? := (Below.heap_setCell _ _ _ q h).trans ((Below.heap_setCell _ _ _ q h).trans ((Below.heap_setCell _ _ _ q h).trans ((Below.heap_setCell _ _ _ q h).trans ((Below.heap_setCell _ _ _ q h).trans ((Below.heap_setCell _ _ _ q h).trans ((Below.heap_setCell _ _ _ q h).trans (Below.heap_setCell _ _ _ q h)))))))
theorem wr8_below {w0 w : World} {B R : Nat} {a0 a1 a2 a3 a4 a5 a6 a7 : Value} (h : Below B w0 w) (hR : B ≤ R) : Below B w0 (wr8 w R a0 a1 a2 a3 a4 a5 a6 a7) := by
  have h0 := h.setCell (p := ⟨R, 0, none⟩) hR a0
  have h1 := h0.setCell (p := ⟨R, 1, none⟩) hR a1
  have h2 := h1.setCell (p := ⟨R, 2, none⟩) hR a2
  have h3 := h2.setCell (p := ⟨R, 3, none⟩) hR a3
  have h4 := h3.setCell (p := ⟨R, 4, none⟩) hR a4
  have h5 := h4.setCell (p := ⟨R, 5, none⟩) hR a5
  have h6 := h5.setCell (p := ⟨R, 6, none⟩) hR a6
  have h7 := h6.setCell (p := ⟨R, 7, none⟩) hR a7
  exact h7
def wr9 (w : World) (R : Nat) (a0 a1 a2 a3 a4 a5 a6 a7 a8 : Value) : World := (((((((((w.setCell ⟨R, 0, none⟩ a0).setCell ⟨R, 1, none⟩ a1).setCell ⟨R, 2, none⟩ a2).setCell ⟨R, 3, none⟩ a3).setCell ⟨R, 4, none⟩ a4).setCell ⟨R, 5, none⟩ a5).setCell ⟨R, 6, none⟩ a6).setCell ⟨R, 7, none⟩ a7).setCell ⟨R, 8, none⟩ a8)
theorem wr9_row {w : World} {R : Nat} {a0 a1 a2 a3 a4 a5 a6 a7 a8 y0 y1 y2 y3 y4 y5 y6 y7 y8 : Value} {t : TypeId} (h : w.heap[R]? = some (.cells #[y0, y1, y2, y3, y4, y5, y6, y7, y8] t (0, 0))) : (wr9 w R a0 a1 a2 a3 a4 a5 a6 a7 a8).heap[R]? = some (.cells #[a0, a1, a2, a3, a4, a5, a6, a7, a8] t (0, 0)) := by
  have h0 := Wi.heap_set _ R 0 a0 _ _ h
  have h1 := Wi.heap_set _ R 1 a1 _ _ h0
  have h2 := Wi.heap_set _ R 2 a2 _ _ h1
  have h3 := Wi.heap_set _ R 3 a3 _ _ h2
  have h4 := Wi.heap_set _ R 4 a4 _ _ h3
  have h5 := Wi.heap_set _ R 5 a5 _ _ h4
  have h6 := Wi.heap_set _ R 6 a6 _ _ h5
  have h7 := Wi.heap_set _ R 7 a7 _ _ h6
  have h8 := Wi.heap_set _ R 8 a8 _ _ h7
  unfold wr9
  simpa only [List.setIfInBounds_toArray, List.set_cons_zero, List.set_cons_succ] using h8
theorem wr9_far {w : World} {R : Nat} {a0 a1 a2 a3 a4 a5 a6 a7 a8 : Value} {q : Nat} (h : q ≠ R) : (wr9 w R a0 a1 a2 a3 a4 a5 a6 a7 a8).heap[q]? = w.heap[q]? := (Below.heap_setCell _ _ _ q h).trans ((Below.heap_setCell _ _ _ q h).trans ((Below.heap_setCell _ _ _ q h).trans ((Below.heap_setCell _ _ _ q h).trans ((Below.heap_setCell _ _ _ q h).trans ((Below.heap_setCell _ _ _ q h).trans ((Below.heap_setCell _ _ _ q h).trans ((Below.heap_setCell _ _ _ q h).trans (Below.heap_setCell _ _ _ q h))))))))
theorem wr9_below {w0 w : World} {B R : Nat} {a0 a1 a2 a3 a4 a5 a6 a7 a8 : Value} (h : Below B w0 w) (hR : B ≤ R) : Below B w0 (wr9 w R a0 a1 a2 a3 a4 a5 a6 a7 a8) := by
  have h0 := h.setCell (p := ⟨R, 0, none⟩) hR a0
  have h1 := h0.setCell (p := ⟨R, 1, none⟩) hR a1
  have h2 := h1.setCell (p := ⟨R, 2, none⟩) hR a2
  have h3 := h2.setCell (p := ⟨R, 3, none⟩) hR a3
  have h4 := h3.setCell (p := ⟨R, 4, none⟩) hR a4
  have h5 := h4.setCell (p := ⟨R, 5, none⟩) hR a5
  have h6 := h5.setCell (p := ⟨R, 6, none⟩) hR a6
  have h7 := h6.setCell (p := ⟨R, 7, none⟩) hR a7
  have h8 := h7.setCell (p := ⟨R, 8, none⟩) hR a8
  exact h8
structure Fr (S : Nat → Prop) (w w' : World) : Prop where
  os : w'.os = w.os
  tape : w'.tape = w.tape
  output : w'.output = w.output
  size : w.heap.size ≤ w'.heap.size
  block : ∀ k, k < w.heap.size → ¬ S k → w'.heap[k]? = w.heap[k]?
theorem Fr.refl (S : Nat → Prop) (w : World) : Fr S w w := ⟨rfl, rfl, rfl, Nat.le_refl _, fun _ _ _ => rfl⟩
theorem Fr.trans {S S' : Nat → Prop} {a b c : World} (h : Fr S a b) (k : Fr S' b c) (hS : ∀ i, S' i → S i ∨ a.heap.size ≤ i) : Fr S a c :=
  ⟨k.os.trans h.os, k.tape.trans h.tape, k.output.trans h.output, Nat.le_trans h.size k.size, fun i hi hn =>
    (k.block i (Nat.lt_of_lt_of_le hi h.size) (fun q => (hS i q).elim hn (fun q => by omega))).trans (h.block i hi hn)⟩
theorem Fr.drew {S : Nat → Prop} {a w : World} (h : Fr S a w) : Fr S a w.drew := ⟨h.os, h.tape, h.output, h.size, h.block⟩
theorem Fr.alloc {S : Nat → Prop} {a w : World} (h : Fr S a w) (o : Obj) : Fr S a (w.alloc o) :=
  ⟨h.os, h.tape, h.output, by simp; have := h.size; omega, fun k hk hn => (Below.heap_alloc w o k (by have := h.size; omega)).trans (h.block k hk hn)⟩
theorem Fr.setCell {S : Nat → Prop} {a w : World} (h : Fr S a w) {p : Addr} (hp : S p.block ∨ a.heap.size ≤ p.block) (u : Value) : Fr S a (w.setCell p u) :=
  ⟨h.os, h.tape, h.output, by simp [World.setCell]; exact h.size, fun k hk hn => (Below.heap_setCell w p u k (by rintro rfl; exact hp.elim hn (fun q => by omega))).trans (h.block k hk hn)⟩
theorem Fr.grown {S : Nat → Prop} {a w w' : World} {row : Option Nat} (h : Fr S a w) (hg : w.grownBy w' row) (hr : ∀ k, row = some k → S k ∨ a.heap.size ≤ k) : Fr S a w' :=
  ⟨hg.os.trans h.os, hg.tape.trans h.tape, hg.output.trans h.output, Nat.le_trans h.size hg.size, fun k hk hn =>
    (hg.block k (Nat.lt_of_lt_of_le hk h.size) (fun e => (hr k e.symm).elim hn (fun q => by omega))).trans (h.block k hk hn)⟩
theorem Fr.of_below {S : Nat → Prop} {a b : World} (h : Below a.heap.size a b) : Fr S a b := ⟨h.os, h.tape, h.output, h.size, fun k hk _ => h.block k hk⟩
theorem Fr.below {S : Nat → Prop} {a b : World} (h : Fr S a b) {B : Nat} (hB : B ≤ a.heap.size) (hS : ∀ k, S k → B ≤ k) : Below B a b :=
  ⟨h.os, h.tape, h.output, h.size, fun k hk => h.block k (by omega) (fun q => by have := hS k q; omega)⟩
theorem Fr.mono {S S' : Nat → Prop} {a b : World} (h : Fr S a b) (hS : ∀ k, S k → S' k) : Fr S' a b := ⟨h.os, h.tape, h.output, h.size, fun k hk hn => h.block k hk (fun q => hn (hS k q))⟩
end Go.Proofs.YtphclpjekpdifaaGreat
