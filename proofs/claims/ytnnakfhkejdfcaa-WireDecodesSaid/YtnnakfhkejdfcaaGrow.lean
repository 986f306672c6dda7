import Derived.Test.YtnnakfhkejdfcaaRc
import Derived.Lib.AppendZeros
import Derived.Maps.AppendAt
namespace Go.Proofs.Ytnnakfhkejdfcaa
open Go.RowKit Pl
set_option linter.unusedVariables false

theorem info26 : (Try.prog.info? 26).map (fun i => (i.zero, i.size, i.bytes)) = some (some (.agg #[.int .i64 0, .int .i64 0, .string ⟨#[]⟩, .slice none 0 0]), 4, 56) := by kernel_rfl

def GrowPost (w : World) (e : Ending) (w' : World) : Prop := ∃ v, e = .returned v ∧ w'.ownsRow w.heap.size 26 4 v 0 [] ∧ Below w.heap.size w w'

set_option maxRecDepth 20000 in
theorem grow_zero (w : World) : Calls Try.prog 38 #[.slice none 0 0, .int .i64 0] w (GrowPost w) := by
  go_enter Try.func38, Try.ntmps38
  go_wp2_with fail
  go_ret
  exact ⟨_, rfl, World.ownsRow_nil _ _ _ _, Below.refl _ _⟩

set_option maxRecDepth 20000 in
theorem grow_some (n : Nat) (w : World) (h0 : 0 < n) (h1 : n ≤ 4096) : Calls Try.prog 38 #[.slice none 0 0, .int .i64 n] w (GrowPost w) := by
  obtain ⟨i, hi, hz0, hz1, hz2⟩ := info_parts info26
  have hra := Lib.run_append_nil_zeros w 24 3 24 26 i _ .i64 .i64 Try.underlying24 Try.underlying3 hi hz0 n h0 (by omega) (by omega) (by rw [hz2]; omega)
  have HRA := Lib.hid hra
  clear hra
  have hge := grownCap_ge w n 0 26
  have hle := grownCap_le_maxLen w n 0 26 (by simp only [maxLen]; omega)
  have hown : (w.drew.alloc (.cells (Builtin.zeroCells (Value.agg #[.int .i64 0, .int .i64 0, .string ⟨#[]⟩, .slice none 0 0]).cells n ++ Builtin.zeroCells (Value.agg #[.int .i64 0, .int .i64 0, .string ⟨#[]⟩, .slice none 0 0]).cells (grownCap w n 0 26 - n)) 26)).ownsRow w.heap.size 26 4
      (.slice (some ⟨w.drew.heap.size, 0, none⟩) 0 (grownCap w n 0 26)) 0 [] :=
    World.ownsRow_made w.drew _ _ (Nat.le_refl _) hle (by simp [size_zeroCells, Value.cells]; omega)
  have HO := Lib.hid hown
  clear hown
  unfold maxLen at hle
  generalize grownCap w n 0 26 = C at *
  generalize Builtin.zeroCells (Value.agg #[.int .i64 0, .int .i64 0, .string ⟨#[]⟩, .slice none 0 0]).cells n ++ Builtin.zeroCells (Value.agg #[.int .i64 0, .int .i64 0, .string ⟨#[]⟩, .slice none 0 0]).cells (C - n) = X at *
  go_enter Try.func38, Try.ntmps38
  go_wp2_with (at_builtin; (refine Lib.wpList_append_run w rfl (.tmp 20) (.tmp 21) 24 3 rfl _ _ rfl rfl _ _ HRA.out ?_))
  go_ret
  exact ⟨_, rfl, HO.out, ((Below.refl _ _).alloc (Nat.le_refl _) _).drew⟩

theorem grow_any (n : Int) (w : World) (h0 : 0 ≤ n) (h1 : n ≤ 4096) : Calls Try.prog 38 #[.slice none 0 0, .int .i64 n] w (GrowPost w) := by
  obtain ⟨m, rfl⟩ := Int.eq_ofNat_of_zero_le h0
  by_cases hm : m = 0
  · subst hm; exact grow_zero w
  · exact grow_some m w (by omega) (by omega)

/-- the four cells of each stand for the trees -/
def ItsIn (w : World) (S : Nat → Prop) : List It → List Value → Prop
  | [], us => us = []
  | x :: r, us => ∃ u0 u1 u2 u3 us', us = u0 :: u1 :: u2 :: u3 :: us' ∧ IsIt w S x (.agg #[u0, u1, u2, u3]) ∧ ItsIn w S r us'

theorem ItsIn.snoc {w : World} {S : Nat → Prop} {x : It} {u0 u1 u2 u3 : Value} (hx : IsIt w S x (.agg #[u0, u1, u2, u3])) : ∀ {ts : List It} {us : List Value}, ItsIn w S ts us → ItsIn w S (ts ++ [x]) (us ++ [u0, u1, u2, u3])
  | [], us, h => by
    rw [ItsIn] at h
    subst h
    exact ⟨u0, u1, u2, u3, [], rfl, hx, rfl⟩
  | y :: r, us, h => by
    rw [ItsIn] at h
    obtain ⟨a0, a1, a2, a3, us', rfl, h1, h2⟩ := h
    exact ⟨a0, a1, a2, a3, us' ++ [u0, u1, u2, u3], rfl, h1, ItsIn.snoc hx h2⟩
theorem ItsIn.keep {w w' : World} {S S' : Nat → Prop} (hk : ∀ q, S q → w'.heap[q]? = w.heap[q]?) (hm : ∀ q, S q → S' q) : ∀ {ts : List It} {us : List Value}, ItsIn w S ts us → ItsIn w' S' ts us
  | [], us, h => h
  | y :: r, us, h => by
    rw [ItsIn] at h
    obtain ⟨a0, a1, a2, a3, us', rfl, h1, h2⟩ := h
    exact ⟨a0, a1, a2, a3, us', rfl, IsIt.mono hm y (IsIt.keep hk y h1), ItsIn.keep hk hm h2⟩
theorem ItsIn.are {w : World} {S : Nat → Prop} {b : Nat} (hb : S b) : ∀ {ts : List It} {us : List Value} {i : Nat}, ItsIn w S ts us → (∀ j u, us[j]? = some u → w.cell? ⟨b, i * 4 + j, none⟩ = some u) → AreIts w S ts (some ⟨b, 0, none⟩) i
  | [], us, i, h, hc => by rw [AreIts]; trivial
  | y :: r, us, i, h, hc => by
    rw [ItsIn] at h
    obtain ⟨a0, a1, a2, a3, us', rfl, h1, h2⟩ := h
    rw [AreIts]
    refine ⟨⟨b, 0, a0, a1, a2, a3, rfl, hb, ?_, ?_, ?_, ?_, h1⟩, ItsIn.are hb h2 fun j u hu => ?_⟩
    · simpa using hc 0 a0 rfl
    · simpa using hc 1 a1 rfl
    · simpa using hc 2 a2 rfl
    · simpa using hc 3 a3 rfl
    · have := hc (j + 4) u (by simpa using hu)
      rwa [show (i + 1) * 4 + j = i * 4 + (j + 4) from by omega]

theorem ownsRow_base {w : World} {b b' : Nat} {e : TypeId} {size n : Nat} {v : Value} {xs : List Value} (h : w.ownsRow b e size v n xs) (hb : b' ≤ b) : w.ownsRow b' e size v n xs := by
  refine ⟨h.1, ?_⟩
  rcases h.2 with hn | ⟨g, cap, cur, r1, r2, r3⟩
  · exact .inl hn
  · exact .inr ⟨g, cap, cur, r1, Nat.le_trans hb r2, r3⟩
theorem ownsRow_keep {w w' : World} {b : Nat} {e : TypeId} {size n : Nat} {v : Value} {xs : List Value} (h : w.ownsRow b e size v n xs) (hk : ∀ q, v.ownBlock = some q → w'.heap[q]? = w.heap[q]?) : w'.ownsRow b e size v n xs := by
  refine ⟨h.1, ?_⟩
  rcases h.2 with hn | ⟨g, cap, cur, rfl, r2, r3, r4⟩
  · exact .inl hn
  · exact .inr ⟨g, cap, cur, rfl, r2, (hk g rfl).trans r3, r4⟩

/-- append of one item, that stands in four cells -/
theorem wp_app4 {ops : Array Oper} {rest : List Oper} {o : Oper} {a : Act} {Q : Exit → Act → World → Prop} {w : World} (hgd : o.guard = none) (s x : Operand)
    (ho : o.op = .call { callee := .builtin .append, args := #[s, x], argTypes := #[24, 24] })
    (base : Nat) (v : Value) (n : Nat) (xs : List Value) (hs : a.eval s = v) (hown : w.ownsRow base 26 4 v n xs) (ad : Addr) (c : Nat) (hx : a.eval x = .slice (some ad) 1 c)
    (u0 u1 u2 u3 : Value) (k0 : w.cell? ad = some u0) (k1 : w.cell? (ad.add 1) = some u1) (k2 : w.cell? (ad.add 2) = some u2) (k3 : w.cell? (ad.add 3) = some u3)
    (o0 : u0.oneCell' = true) (o1 : u1.oneCell' = true) (o2 : u2.oneCell' = true) (o3 : u3.oneCell' = true) (hlen : n ≤ 4096) (hbase : base ≤ w.heap.size)
    (h : ∀ v' w', w'.ownsRow base 26 4 v' (n + 1) (xs ++ [u0, u1, u2, u3]) → w.grownBy w' v.ownBlock → (v'.ownBlock = v.ownBlock ∨ v'.ownBlock = some w.heap.size) → wpList Try.prog ops Q rest (a.put o.dst v') w') : wpList Try.prog ops Q (o :: rest) a w := by
  obtain ⟨i, hi, hz0, hz1, hz2⟩ := info_parts info26
  obtain ⟨v', w', hrun, h2, h3, _, h5⟩ := run_append_own_at (P := Try.prog) w base 24 o.type 26 i _ 4 56 Try.underlying24 hi hz0 hz1 hz2 rfl (by omega) v n xs hown ad 1 c [u0, u1, u2, u3] rfl
    (fun j u hu => by
      match j, hu with
      | 0, hu => simp at hu; subst hu; simpa [Addr.add] using k0
      | 1, hu => simp at hu; subst hu; exact k1
      | 2, hu => simp at hu; subst hu; exact k2
      | 3, hu => simp at hu; subst hu; exact k3
      | j + 4, hu => simp at hu)
    (fun u hu => by
      simp only [List.mem_cons, List.not_mem_nil, or_false] at hu
      rcases hu with rfl | rfl | rfl | rfl <;> assumption)
    (by simp only [maxLen]; omega) (by omega) hbase
  exact Lib.wpList_append_run w hgd s x 24 24 ho v _ hs hx v' w' hrun (h v' w' h2 h3 h5)
end Go.Proofs.Ytnnakfhkejdfcaa
