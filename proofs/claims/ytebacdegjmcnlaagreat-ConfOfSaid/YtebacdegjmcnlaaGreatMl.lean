import Derived.Test.YtebacdegjmcnlaaGreatMk
namespace Go.Proofs.YtebacdegjmcnlaaGreat
open Go.RowKit Pl
set_option linter.unusedVariables false
set_option maxRecDepth 20000
theorem row6 {w : World} {b : Nat} {a0 a1 a2 a3 a4 a5 : Value} {t : TypeId} (h : w.heap[b]? = some (.cells #[a0, a1, a2, a3, a4, a5] t (0, 0))) :
    w.cell? ⟨b, 0, none⟩ = some a0 ∧ w.cell? ⟨b, 1, none⟩ = some a1 ∧ w.cell? ⟨b, 2, none⟩ = some a2 ∧ w.cell? ⟨b, 3, none⟩ = some a3 ∧ w.cell? ⟨b, 4, none⟩ = some a4 ∧ w.cell? ⟨b, 5, none⟩ = some a5 :=
  ⟨cell_of_row w b 0 _ _ _ h, cell_of_row w b 1 _ _ _ h, cell_of_row w b 2 _ _ _ h, cell_of_row w b 3 _ _ _ h, cell_of_row w b 4 _ _ _ h, cell_of_row w b 5 _ _ _ h⟩
theorem mayR_size {e : Int} {s : ByteArray} (h : mayR e s = true) : 0 ≤ e ∧ e ≤ 255 ∧ s.size ≤ 1000 := by
  simpa [mayR] using h
/-- a reply's text, and its error -/
def packR (o : Int) (s : ByteArray) (a b c n : Int) : ByteArray := if mayR o s = true then Nm.str (rIt o s a b c n).enc else ⟨#[]⟩
def errR (o : Int) (s : ByteArray) (a b c n : Int) : Int := if mayR o s = true then 0 else 4
def PackPost (o : Int) (s : ByteArray) (a b c n : Int) (w : World) (e : Ending) (w' : World) : Prop := e = .returned (.tuple #[.string (packR o s a b c n), .int .i64 (errR o s a b c n)]) ∧ Below w.heap.size w w'
/-- five items in a new block -/
theorem rRow {o : Int} {s : ByteArray} {a b c n : Int} {vA : Option Addr} {vc : Nat} {wC wD wE : World} (ho : InR o) (hs : s.size ≤ maxLen) (hn : InR n) (hal : AreIts wD (NewB wC wD) [nIt a, nIt b, nIt c] vA 0) (hE : Below wD.heap.size wD wE) :
    AreIts (wE.alloc (.cells #[.int .i64 1, .int .i64 o, .string ⟨#[]⟩, .slice none 0 0, .int .i64 2, .int .i64 0, .string s, .slice none 0 0, .int .i64 3, .int .i64 0, .string ⟨#[]⟩, .slice vA 3 vc, .int .i64 1, .int .i64 n, .string ⟨#[]⟩, .slice none 0 0] 50))
      (· < (wE.alloc (.cells #[.int .i64 1, .int .i64 o, .string ⟨#[]⟩, .slice none 0 0, .int .i64 2, .int .i64 0, .string s, .slice none 0 0, .int .i64 3, .int .i64 0, .string ⟨#[]⟩, .slice vA 3 vc, .int .i64 1, .int .i64 n, .string ⟨#[]⟩, .slice none 0 0] 50)).heap.size)
      [nIt o, sIt s, vIt a b c, nIt n] (some ⟨wE.heap.size, 0, none⟩) 0 := by
  have hs1 := hE.size
  refine are_row (us := mk1 o ++ (mk2 s ++ (mk3 vA 3 vc ++ mk1 n))) (t := 50) (by simp) ?_ (heap_alloc_new wE _)
  refine ⟨_, _, _, _, _, rfl, isIt_nIt _ _ o ho, _, _, _, _, _, rfl, isIt_sIt _ _ s hs, _, _, _, _, _, rfl, isIt_row _ _ [nIt a, nIt b, nIt c] vA vc (by simp [maxLen]) (AreIts.mono ?_ _ (AreIts.keep ?_ _ hal)), _, _, _, _, _, rfl, isIt_nIt _ _ n hn, rfl⟩
  · intro q hq
    have := hq.2
    simp; omega
  · intro q hq
    have := hq.2
    exact (Below.heap_alloc _ _ q (by omega)).trans (hE.block q this)
end Go.Proofs.YtebacdegjmcnlaaGreat
