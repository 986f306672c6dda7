import Derived.Test.YtebacdegjmcnlaaGreatMx
namespace Go.Proofs.YtebacdegjmcnlaaGreat
open Go.RowKit Pl
set_option linter.unusedVariables false
set_option maxRecDepth 20000
/-- a command's cells at a place -/
abbrev CAt (V : World) (p : Nat) (o : Int) (s t : ByteArray) (a b c n : Int) : Prop :=
  V.cell? ⟨p, 0, none⟩ = some (.int .i64 o) ∧ V.cell? ⟨p, 1, none⟩ = some (.string s) ∧ V.cell? ⟨p, 2, none⟩ = some (.string t) ∧ V.cell? ⟨p, 3, none⟩ = some (.int .i64 a) ∧ V.cell? ⟨p, 4, none⟩ = some (.int .i64 b) ∧ V.cell? ⟨p, 5, none⟩ = some (.int .i64 c) ∧ V.cell? ⟨p, 6, none⟩ = some (.int .i64 n)
abbrev RAt (V : World) (p : Nat) (o : Int) (s : ByteArray) (a b c n : Int) : Prop :=
  V.cell? ⟨p, 0, none⟩ = some (.int .i64 o) ∧ V.cell? ⟨p, 1, none⟩ = some (.string s) ∧ V.cell? ⟨p, 2, none⟩ = some (.int .i64 a) ∧ V.cell? ⟨p, 3, none⟩ = some (.int .i64 b) ∧ V.cell? ⟨p, 4, none⟩ = some (.int .i64 c) ∧ V.cell? ⟨p, 5, none⟩ = some (.int .i64 n)
def cRowV (o : Int) (s t : ByteArray) (a b c n : Int) : Obj := .cells #[.int .i64 o, .string s, .string t, .int .i64 a, .int .i64 b, .int .i64 c, .int .i64 n] 32 (0, 0)
theorem cat_of {V W : World} {p B : Nat} {o : Int} {s t : ByteArray} {a b c n : Int} (h : W.heap[p]? = some (cRowV o s t a b c n)) (hp : p < B) (hb : Below B W V) : CAt V p o s t a b c n :=
  row7 ((hb.block p hp).trans h)
theorem encC_yes {o : Int} {s t : ByteArray} {a b c n : Int} (h : mayC o s t a b c n = true) : encC o s t a b c n = Nm.str (cIt o s t a b c n).enc ∧ errC o s t a b c n = 0 := by
  unfold encC errC; rw [if_pos h, if_pos h]; exact ⟨rfl, rfl⟩
theorem encC_no {o : Int} {s t : ByteArray} {a b c n : Int} (h : mayC o s t a b c n = false) : encC o s t a b c n = ⟨#[]⟩ ∧ errC o s t a b c n = 4 := by
  unfold encC errC; rw [if_neg (by rw [h]; decide), if_neg (by rw [h]; decide)]; exact ⟨rfl, rfl⟩
theorem packR_yes {o : Int} {s : ByteArray} {a b c n : Int} (h : mayR o s = true) : packR o s a b c n = Nm.str (rIt o s a b c n).enc ∧ errR o s a b c n = 0 := by
  unfold packR errR; rw [if_pos h, if_pos h]; exact ⟨rfl, rfl⟩
theorem packR_no {o : Int} {s : ByteArray} {a b c n : Int} (h : mayR o s = false) : packR o s a b c n = ⟨#[]⟩ ∧ errR o s a b c n = 4 := by
  unfold packR errR; rw [if_neg (by rw [h]; decide), if_neg (by rw [h]; decide)]; exact ⟨rfl, rfl⟩
theorem str_size0 {l : List UInt8} (h : l ≠ []) : ((Nm.str l).size == 0) = false := by
  rw [beq_eq_false_iff_ne]
  show l.toArray.size ≠ 0
  simpa using h
theorem noEmpty {t : ByteArray} (h : (t.size == 0) = false) : t.toList.isEmpty = false := by
  have := toList0 h
  cases hq : t.toList with
  | nil => rw [hq] at this; cases this
  | cons a r => rfl
theorem eq23v (a b c x y z : Int) (w : World) : (binOp .eql 30 (.agg #[.int .i64 a, .int .i64 b, .int .i64 c]) (.agg #[.int .i64 x, .int .i64 y, .int .i64 z])).run Tryz.prog w = .ok (.bool (eqV a b c x y z)) w := by
  rw [run_eql_struct, show (10000 : Nat) = 9998 + 2 from rfl, eq23]
  rfl
theorem neq25v (o : Int) (s t : ByteArray) (a b c n : Int) (o' : Int) (s' t' : ByteArray) (a' b' c' n' : Int) (w : World) : (binOp .neq 32 (.agg #[.int .i64 o, .string s, .string t, .int .i64 a, .int .i64 b, .int .i64 c, .int .i64 n]) (.agg #[.int .i64 o', .string s', .string t', .int .i64 a', .int .i64 b', .int .i64 c', .int .i64 n'])).run Tryz.prog w = .ok (.bool (!eqC o s t a b c n o' s' t' a' b' c' n')) w := by
  rw [run_neq_struct]
  have := eq25 o s t a b c n o' s' t' a' b' c' n' w
  unfold cV at this
  rw [this]
  rfl
theorem enc_ne (k n : Int) (s : ByteArray) (l : List It) (hk : k = 1 ∨ k = 2 ∨ k = 3) : (It.mk k n s l).enc ≠ [] := by
  rcases hk with rfl | rfl | rfl <;> simp [It.enc]
theorem cEnc_ne (o : Int) (s t : ByteArray) (a b c n : Int) : (cIt o s t a b c n).enc ≠ [] := enc_ne _ _ _ _ (by omega)
theorem rEnc_ne (o : Int) (s : ByteArray) (a b c n : Int) : (rIt o s a b c n).enc ≠ [] := enc_ne _ _ _ _ (by omega)
theorem asks_is {o : Int} {s t : ByteArray} {a b c n : Int} (h : asksC o s t a b c n = true) : mayC o s t a b c n = true ∧ t = ⟨#[]⟩ ∧ a = 0 ∧ b = 0 ∧ c = 0 ∧ n = 0 ∧ 8 ≤ o ∧ o ≤ 10 := by
  unfold asksC at h
  rw [Bool.and_eq_true] at h
  obtain ⟨h1, h2⟩ := h
  refine ⟨h2, ?_⟩
  have h3 : 8 ≤ o ∧ o ≤ 10 := by
    simp at h1
    omega
  unfold mayC fitF at h2
  rw [if_neg (by omega), if_neg (by omega), if_pos (by omega)] at h2
  simp only [Bool.and_eq_true, beq_iff_eq, eqV_iff] at h2
  obtain ⟨_, ⟨h4, h5, h6, h7⟩, h8⟩ := h2
  exact ⟨size_zero h4, h5, h6, h7, h8, h3⟩
end Go.Proofs.YtebacdegjmcnlaaGreat
