import Derived.Test.YtkhhmpcpcdadaaaWh
namespace Go.Proofs.Ytkhhmpcpcdadaaa
open Go.RowKit
set_option linter.unusedVariables false

def TotBig (w : World) (e : Ending) (w' : World) : Prop := w = w' ∧ ∃ t : Int, 65536 < t ∧ e = .returned (.int .i64 t)
theorem total_big {ls : List (List UInt8)} {A : Option Addr} {n c B : Nat} {w : World} (h1 : RowsAt w B A ls) (hn : ls.length = n) (hc : n ≤ 9223372036854775807) (ht : 65536 < Fr.tot ls) : Calls Try.prog 16 #[.slice A n c] w (TotBig w) :=
  (total_any ls A n c B w h1 hn hc).mono fun e w' ⟨h, t, h2, h3, h4⟩ => ⟨h, t, h4 ht, h2⟩
theorem total_small {ls : List (List UInt8)} {A : Option Addr} {n c B : Nat} {w : World} (h1 : RowsAt w B A ls) (hn : ls.length = n) (hc : n ≤ 9223372036854775807) (ht : Fr.tot ls ≤ 65536) : Calls Try.prog 16 #[.slice A n c] w fun e w' => w = w' ∧ e = .returned (.int .i64 (Fr.tot ls : Nat)) :=
  (total_any ls A n c B w h1 hn hc).mono fun e w' ⟨h, t, h2, h3, h4⟩ => ⟨h, by rw [h2, h3 ht]⟩
theorem RowsAt.below {w W : World} {A : Option Addr} {ls : List (List UInt8)} (h : RowsAt w w.heap.size A ls) (hb : Below w.heap.size w W) : RowsAt W W.heap.size A ls := (h.keep hb.block).mono hb.size

def ScanAt (ms : List (List UInt8)) (k n : Nat) (w : World) (e : Ending) (w' : World) : Prop := Below w.heap.size w w' ∧ ∃ A c, e = .returned (.tuple #[.slice A n c, .int .i64 k]) ∧ n ≤ c ∧ (A = none → c = 0) ∧ RowsAt w' w'.heap.size A ms
theorem scan_at {bs : List UInt8} {A : Option Addr} {n cap : Nat} {w : World} {ms : List (List UInt8)} {k j : Nat} (hb : BytesAt w w.heap.size A bs) (hn : bs.length = n) (hnm : n ≤ 1000000) (hnc : n ≤ cap) (hc : cap ≤ 9223372036854775807) (hs : Fr.scan bs = (ms, k)) (hj : ms.length = j) :
    Calls Try.prog 13 #[.slice A n cap] w (ScanAt ms k j w) := by
  refine (scan_any bs A n cap w.heap.size w (Nat.le_refl _) hb hn hnm hnc hc).mono ?_
  rintro e w' ⟨bel, A', c, vs, he, ov, rows, _⟩
  rw [hs] at he ov rows
  subst hj
  have hl : ms.length ≤ c ∧ (A' = none → c = 0) := by
    rcases ov.2 with ⟨q, z⟩ | ⟨g, cap, cur, q, _, _, q2, _⟩
    · injection q with x1 x2 x3; exact ⟨by rw [x2]; omega, fun _ => x3⟩
    · injection q with x1 x2 x3; exact ⟨by have := rows.1; dsimp only at this; omega, fun e => by rw [e] at x1; cases x1⟩
  exact ⟨bel, A', c, he, hl.1, hl.2, ov.rowsAt ((rows.keep bel.block).mono bel.size)⟩
/-- an argument: bytes -/
structure ByArg (w : World) (A : Option Addr) (n c : Nat) (bs : List UInt8) : Prop where
  at_ : BytesAt w w.heap.size A bs
  len : bs.length = n
  le : n ≤ c
  cap : c ≤ 9223372036854775807
  nil : A = none → c = 0
/-- an argument: rows of bytes -/
structure RoArg (w : World) (A : Option Addr) (n c : Nat) (ls : List (List UInt8)) : Prop where
  at_ : RowsAt w w.heap.size A ls
  len : ls.length = n
  le : n ≤ c
  cap : c ≤ 9223372036854775807
  nil : A = none → c = 0
theorem ByArg.below {w W : World} {A : Option Addr} {n c : Nat} {bs : List UInt8} (h : ByArg w A n c bs) (hb : Below w.heap.size w W) : ByArg W A n c bs := ⟨h.at_.below hb, h.len, h.le, h.cap, h.nil⟩
theorem RoArg.below {w W : World} {A : Option Addr} {n c : Nat} {ls : List (List UInt8)} (h : RoArg w A n c ls) (hb : Below w.heap.size w W) : RoArg W A n c ls := ⟨h.at_.below hb, h.len, h.le, h.cap, h.nil⟩

end Go.Proofs.Ytkhhmpcpcdadaaa
