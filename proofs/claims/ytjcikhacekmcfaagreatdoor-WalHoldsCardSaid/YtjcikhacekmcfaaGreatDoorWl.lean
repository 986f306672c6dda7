import Derived.Lib.ItoaNum
import Derived.Test.YtjcikhacekmcfaaGreatDoorKd
import Derived.Test.YtjcikhacekmcfaaGreatDoorKb
import Derived.Test.YtjcikhacekmcfaaGreatDoorFa
import Derived.Test.YtjcikhacekmcfaaGreatDoorMa
namespace Go.Proofs.YtjcikhacekmcfaaGreatDoor.PWal
open PlainDisk (File Disk)
open Wr.Pl (It)
set_option linter.unusedVariables false

/-! ### what lies on a wal's disk, and what it means -/
abbrev B := List UInt8
structure Ent where
  term : Int
  data : B
structure St where
  term : Int
  vote : Int
  sidx : Int
  sterm : Int
  sdata : B
  log : List Ent
/-- the state of a new disk -/
def St.new : St := ⟨0, -1, 0, 0, [], []⟩
def St.last (s : St) : Int := s.sidx + s.log.length

/-! names -/
def voteN : B := [118, 111, 116, 101]
def snapN : B := [115, 110, 97, 112]
def dotNew : B := [46, 110, 101, 119]
def voteNewN : B := [118, 111, 116, 101, 46, 110, 101, 119]
def snapNewN : B := [115, 110, 97, 112, 46, 110, 101, 119]
def digs (n : Nat) : B := (List.range 10).map fun k => Lib.dg n (9 - k)
def segN (n : Nat) : B := 115 :: digs n
def isDig (c : UInt8) : Bool := decide (48 ≤ c.toNat) && decide (c.toNat ≤ 57)
def numD (l : B) : Nat := l.foldl (fun n c => n * 10 + (c.toNat - 48)) 0
/-- a segment's number; 0: it is none -/
def segNo (nm : B) : Nat := if nm.head? = some 115 ∧ nm.tail.length = 10 ∧ nm.tail.all isDig = true then numD nm.tail else 0

/-! what a disk's files say -/
def rdB (D : Disk) (nm : B) : B := ((PlainDisk.find D.fs nm).map (·.bytes)).getD []
def sureB (D : Disk) (nm : B) : Nat := ((PlainDisk.find D.fs nm).map (·.sure)).getD 0
def segsOf (l : List B) : List Nat := (l.map segNo).filter (0 < ·)
def segs (D : Disk) : List Nat := segsOf (D.fs.map (·.name))

/-! items -/
def num (n : Int) : It := .mk 1 n ⟨#[]⟩ []
def txt (s : B) : It := .mk 2 0 ⟨s.toArray⟩ []
def row (l : List It) : It := .mk 3 0 ⟨#[]⟩ l
def rcdOf (l : List It) : B := Fm.Fr.rcd (row l).enc
/-- the parts of a payload's list -/
def parts (p : B) : List It := match Wr.Pl.dec p with
  | some (.mk k n s l) => if k = 3 then l else []
  | none => []
inductive Say
  | num (n : Int)
  | txt (s : B)
  | nil
def say : It → Say
  | .mk k n s l => if k = 1 then .num n else if k = 2 then .txt s.data.toList else .nil

/-! the records' meanings -/
def maxI : Int := 4611686018427387904
def mayVote (v : Int) : Bool := decide (-1 ≤ v) && decide (v < 7)
def mayBe (n : Int) : Bool := decide (1 ≤ n) && decide (n ≤ maxI)
def voteOf (p : B) : Option (Int × Int) := match (parts p).map say with
  | [.num t, .num v] => if 0 ≤ t ∧ t ≤ maxI ∧ mayVote v = true then some (t, v) else none
  | _ => none
structure Chg where
  index : Int
  trunc : Bool
  ent : Ent
def chgOf (p : B) : Option Chg := match (parts p).map say with
  | [.num i] => some ⟨i, true, ⟨0, []⟩⟩
  | [.num i, .num t, .txt d] => some ⟨i, false, ⟨t, d⟩⟩
  | _ => none
def Chg.enc (c : Chg) : B := if c.trunc = true then rcdOf [num c.index] else rcdOf [num c.index, num c.ent.term, txt c.ent.data]
def fits (c : Chg) (s : St) : Bool := mayBe c.index && decide (c.index ≤ s.last + 1) && (c.trunc || (mayBe c.ent.term && decide (c.ent.data.length ≤ 4000)))
def apply (c : Chg) (s : St) : St :=
  { s with log := s.log.take (c.index - s.sidx - 1).toNat ++ if c.trunc = false ∧ s.sidx < c.index then [c.ent] else [] }

/-! files -/
def settle (D : Disk) (nm : B) : Disk × Int := if sureB D nm = (rdB D nm).length then (D, 0) else PlainDisk.sync may D nm
def trim (D : Disk) (nm : B) (n : Nat) : Disk × Int := if (rdB D nm).length ≤ n then (D, 0) else PlainDisk.cut may D nm n
def dropF (D : Disk) (nm : B) : Disk × Int := if PlainDisk.find D.fs nm = none then (D, 0) else PlainDisk.dropA may D nm
/-- one step behind another, as long as there is no error -/
def andThen (r : Disk × Int) (f : Disk → Disk × Int) : Disk × Int := if r.2 = 0 then f r.1 else r
def target (D : Disk) : Nat × Disk × Int := match (segs D).getLast? with
  | none => (1, D, 0)
  | some s => if (Fm.Fr.scan (rdB D (segN s))).1.length < 8 then (s, D, 0) else if s = 9999999999 then (0, D, 3) else (s + 1, settle D (segN s))
def write (D : Disk) (b : B) : Disk × Int := andThen (target D).2 fun D1 => PlainDisk.append may D1 (segN (target D).1) b
def replace (D : Disk) (nm new b : B) : Disk × Int :=
  andThen (PlainDisk.append may D new b) fun D1 => andThen (PlainDisk.sync may D1 new) fun D2 => PlainDisk.move may D2 new nm
def writeVote (D : Disk) (b : B) : Disk × Int :=
  if 400 < (rdB D voteN).length then replace D voteN voteNewN b else andThen (PlainDisk.append may D voteN b) fun D1 => PlainDisk.sync may D1 voteN
def settles : List Nat → Disk → Disk × Int
  | [], D => (D, 0)
  | s :: r, D => andThen (settle D (segN s)) (settles r)
def sync (D : Disk) : Disk × Int := settles (segs D) D
def drops : List Nat → Disk → Disk × Int
  | [], D => (D, 0)
  | s :: r, D => andThen (dropF D (segN s)) (drops r)
/-- are all records of a segment up to an index? -/
def oldP (sidx : Int) (p : B) : Bool := match chgOf p with | some c => decide (c.index ≤ sidx) | none => false
def isOld (D : Disk) (sidx : Int) (s : Nat) : Bool := (Fm.Fr.scan (rdB D (segN s))).1.all (oldP sidx)
def oldOnes (D : Disk) (sidx : Int) (l : List Nat) : List Nat := (l.take (l.length - 1)).takeWhile (isOld D sidx)
def dropOld (D : Disk) (sidx : Int) : Disk × Int := drops (oldOnes D sidx (segs D)) D

/-! snapshots -/
def chunks (n : Nat) : Nat → B → List B
  | 0, _ => []
  | f + 1, b => if b = [] then [] else b.take n :: chunks n f (b.drop n)
def pieces (b : B) : List B := chunks 4096 b.length b
def snapRec (sidx sterm : Int) (sdata : B) : B := rcdOf [num sidx, num sterm, num ((pieces sdata).length : Int)] ++ Fm.Fr.flat (pieces sdata)
def snapOf (b : B) : Option (Int × Int × B) := match (Fm.Fr.scan b).1 with
  | [] => none
  | p :: r => match (parts p).map say with
    | [.num i, .num t, _] => if mayBe i = true ∧ mayBe t = true ∧ r.flatten.length ≤ 65536 ∧ b = snapRec i t r.flatten then some (i, t, r.flatten) else none
    | _ => none

/-! the calls -/
def has (s : St) (i t : Int) : Bool := decide (i ≤ s.last) && ((s.log[(i - s.sidx - 1).toNat]?).map (·.term) == some t)
def above (s : St) (i : Int) : List Ent := s.log.drop (min i s.last - s.sidx).toNat
def vote (D : Disk) (s : St) (t v : Int) : Disk × St × Int :=
  if t < s.term ∨ maxI < t ∨ mayVote v = false then (D, s, 1) else
  let r := writeVote D (rcdOf [num t, num v])
  if r.2 = 0 then (r.1, { s with term := t, vote := v }, 0) else (r.1, s, r.2)
def check (s : St) (i : Int) (l : List Ent) : Int :=
  if i ≤ s.sidx ∨ s.last + 1 < i ∨ maxI - i + 1 < l.length ∨ l.any (fun e => !mayBe e.term) = true then 1
  else if l.any (fun e => decide (4000 < e.data.length)) = true then 3 else 0
def puts : List Ent → Int → Disk → St → Disk × St × Int
  | [], _, D, s => (D, s, 0)
  | e :: r, i, D, s =>
    let c : Chg := ⟨i, false, e⟩
    let w := write D c.enc
    if w.2 = 0 then puts r (i + 1) w.1 (apply c s) else (w.1, s, w.2)
def append (D : Disk) (s : St) (i : Int) (l : List Ent) : Disk × St × Int := if check s i l = 0 then puts l i D s else (D, s, check s i l)
def clearLog (D : Disk) (s : St) : Disk × St × Int :=
  let c : Chg := ⟨s.sidx + 1, true, ⟨0, []⟩⟩
  let w := andThen (write D c.enc) sync
  if w.2 = 0 then (w.1, apply c s, 0) else (w.1, s, w.2)
def snapshot (D : Disk) (s : St) (i t : Int) (d : B) : Disk × St × Int :=
  if i ≤ s.sidx ∨ mayBe i = false ∨ mayBe t = false then (D, s, 1) else
  if 65536 < d.length then (D, s, 3) else
  let r := if has s i t = true then (D, s, (0 : Int)) else clearLog D s
  if r.2.2 = 0 then
    let q := replace r.1 snapN snapNewN (snapRec i t d)
    if q.2 = 0 then
      let x := dropOld q.1 i
      (x.1, { r.2.1 with sidx := i, sterm := t, sdata := d, log := above r.2.1 i }, x.2)
    else (q.1, r.2.1, q.2)
  else r

/-! Open -/
def dropNew (D : Disk) : Disk × Int := andThen (dropF D voteNewN) fun D1 => dropF D1 snapNewN
def votes (l : List B) (s : St) : St := l.foldl (fun s p => match voteOf p with | some (t, v) => { s with term := t, vote := v } | none => s) s
def readVote (D : Disk) (s : St) : Disk × St × Int :=
  let b := Fm.Fr.scan (rdB D voteN)
  let r := trim D voteN b.2
  (r.1, votes b.1 s, r.2)
def readSnap (D : Disk) (s : St) : Disk × St × Int := match snapOf (rdB D snapN) with
  | some (i, t, d) => (D, { s with sidx := i, sterm := t, sdata := d }, 0)
  | none => let r := dropF D snapN; (r.1, s, r.2)
def replay : List B → St → Nat → St × Nat
  | [], s, g => (s, g)
  | p :: r, s, g => match chgOf p with
    | none => (s, g)
    | some c => if fits c s = true then replay r (apply c s) (g + (8 + p.length)) else (s, g)
def readSegs : List Nat → Disk → St → Disk × St × Int
  | [], D, s => (D, s, 0)
  | n :: r, D, s =>
    let b := rdB D (segN n)
    let x := replay (Fm.Fr.scan b).1 s 0
    if x.2 = b.length then readSegs r D x.1 else
    let y := andThen (trim D (segN n) x.2) (drops r)
    (y.1, x.1, y.2)
def openD (D : Disk) : Disk × Option St × Int :=
  if D.gone = true then (D, none, 41) else
  let a := dropNew D
  if a.2 ≠ 0 then (a.1, none, a.2) else
  let b := readVote a.1 St.new
  if b.2.2 ≠ 0 then (b.1, none, b.2.2) else
  let c := readSnap b.1 b.2.1
  if c.2.2 ≠ 0 then (c.1, none, c.2.2) else
  let d := readSegs (segs c.1) c.1 c.2.1
  if d.2.2 ≠ 0 then (d.1, none, d.2.2) else (d.1, some d.2.1, 0)
end Go.Proofs.YtjcikhacekmcfaaGreatDoor.PWal
