import Derived.Test.YtphclpjekpdifaaMb
import Derived.Deep.RegionHeld3
namespace Go.Proofs.Ytphclpjekpdifaa.Wi
open Go.RowKit Pl
set_option maxRecDepth 20000
set_option linter.unusedVariables false
set_option maxRecDepth 20000

theorem are_row {w : World} {S : Nat → Prop} {b : Nat} {ts : List It} {us : List Value} {t : TypeId} (hb : S b) (hI : ItsIn w S ts us) (h : w.heap[b]? = some (.cells us.toArray t (0, 0))) : AreIts w S ts (some ⟨b, 0, none⟩) 0 :=
  ItsIn.are hb hI fun j u hu => by rw [Nat.zero_mul, Nat.zero_add]; exact cell_of_row _ _ j _ _ _ h |>.trans (by simpa using hu)
theorem isIt_nIt (w : World) (S : Nat → Prop) (n : Int) (h : InR n) : IsIt w S (nIt n) (.agg #[.int .i64 1, .int .i64 n, .string ⟨#[]⟩, .slice none 0 0]) := isIt_num w S 1 n ⟨by omega, by omega⟩ h
theorem isIt_sIt (w : World) (S : Nat → Prop) (s : ByteArray) (h : s.size ≤ maxLen) : IsIt w S (sIt s) (.agg #[.int .i64 2, .int .i64 0, .string s, .slice none 0 0]) := isIt_str w S s h
theorem isIt_row (w : World) (S : Nat → Prop) (ts : List It) (A : Option Addr) (c : Nat) (hl : ts.length ≤ maxLen) (h : AreIts w S ts A 0) : IsIt w S (.mk 3 0 ⟨#[]⟩ ts) (.agg #[.int .i64 3, .int .i64 0, .string ⟨#[]⟩, .slice A ts.length c]) := by
  rw [IsIt]
  exact ⟨A, c, rfl, ⟨by omega, by omega⟩, ⟨by omega, by omega⟩, by simp [zero_size], hl, h⟩

end Go.Proofs.Ytphclpjekpdifaa.Wi
