import Derived.Test.YtnnakfhkejdfcaaLeaf
import Derived.Lib.AppendStr
import Derived.LoopTactic
import Derived.Lib.Hide
namespace Go.Proofs.Ytnnakfhkejdfcaa
open Go.RowKit
set_option linter.unusedVariables false

/-- bytes as cells -/
def vB (l : List UInt8) : List Value := l.map fun b => .int .u8 (b.toNat : Int)
theorem vB_length (l : List UInt8) : (vB l).length = l.length := by simp [vB]
theorem vB_append (a b : List UInt8) : vB (a ++ b) = vB a ++ vB b := by simp [vB]
theorem vB_one (a : UInt8) : vB [a] = [.int .u8 (a.toNat : Int)] := rfl
theorem vB_oneCell (l : List UInt8) : ∀ u ∈ vB l, u.oneCell' = true := by
  intro u hu; simp only [vB, List.mem_map] at hu; obtain ⟨b, _, rfl⟩ := hu; rfl

theorem info5 : (Try.prog.info? 5).map (fun i => (i.zero, i.size, i.bytes)) = some (some (.int .u8 0), 1, 1) := by kernel_rfl

def OwnB (w : World) (base : Nat) (v : Value) (l : List UInt8) : Prop := w.ownsRow base 5 1 v l.length (vB l)


theorem OwnB.below {w w' : World} {base : Nat} {v : Value} {l : List UInt8} (h : OwnB w base v l) (hb : Below w.heap.size w w') : OwnB w' base v l := by
  refine ⟨h.1, ?_⟩
  rcases h.2 with hn | ⟨g, cap, cur, rfl, hg, hgg, r⟩
  · exact .inl hn
  · exact .inr ⟨g, cap, cur, rfl, hg, by rw [hb.block g (Array.getElem?_eq_some_iff.1 hgg).1]; exact hgg, r⟩

/-- append of one byte, that stands in a cell -/
theorem wp_app1 {ops : Array Oper} {rest : List Oper} {o : Oper} {a : Act} {Q : Exit → Act → World → Prop} {w : World} (hgd : o.guard = none) (s x : Operand)
    (ho : o.op = .call { callee := .builtin .append, args := #[s, x], argTypes := #[22, 22] })
    (base : Nat) (v : Value) (l : List UInt8) (hs : a.eval s = v) (hown : OwnB w base v l) (ad : Addr) (c : Nat) (hx : a.eval x = .slice (some ad) 1 c)
    (q : Int) (hcell : w.cell? ad = some (.int .u8 q)) (hq : 0 ≤ q ∧ q < 256) (hlen : l.length ≤ 70368744177664) (hbase : base ≤ w.heap.size)
    (h : ∀ v' w', OwnB w' base v' (l ++ [UInt8.ofNat q.toNat]) → Below base w w' → wpList Try.prog ops Q rest (a.put o.dst v') w') : wpList Try.prog ops Q (o :: rest) a w := by
  obtain ⟨i5, hi5, hz0, hz1, hz2⟩ := info_parts info5
  refine wpList_append_own w hgd s x 22 ho base 5 i5 _ 1 1 Try.underlying22 hi5 hz0 hz1 hz2 rfl (by omega) v l.length (vB l) hs hown ad 1 c [.int .u8 q] hx rfl ?_ ?_ (by simp only [maxLen]; omega) (by omega) hbase ?_
  · intro j u hu
    match j, hu with
    | 0, hu =>
      simp only [List.getElem?_cons_zero, Option.some.injEq] at hu
      subst hu
      simpa [Addr.add] using hcell
    | j + 1, hu => simp at hu
  · intro u hu
    simp only [List.mem_singleton] at hu
    subst hu
    rfl
  · intro v' w' h2 h3 _
    have e : [Value.int .u8 q] = vB [UInt8.ofNat q.toNat] := by
      have : ((UInt8.ofNat q.toNat).toNat : Int) = q := by
        rw [UInt8.toNat_ofNat']; omega
      rw [vB_one, this]
    refine h v' w' ?_ ((Below.refl _ _).grown h3 hbase fun k hk => (hown.lt k hk).1)
    unfold OwnB
    rw [vB_append, ← e, List.length_append]
    exact h2

def AppPost (base : Nat) (r : List UInt8) (w : World) (e : Ending) (w' : World) : Prop := ∃ v', e = .returned v' ∧ OwnB w' base v' r ∧ Below base w w'

set_option maxRecDepth 20000 in
theorem appendCount_any (base : Nat) (v : Value) (l : List UInt8) (c : Int) (w : World) (hown : OwnB w base v l) (hn : l.length ≤ 1099511627776) (hb : base ≤ w.heap.size) (h0 : 0 ≤ c) (h1 : c ≤ 18446744073709551615) :
    Calls Try.prog 36 #[v, .int .u64 c] w (AppPost base (l ++ Pl.cntB c.toNat) w) := by
  have hd := Pl.dgs_le c.toNat
  go_enter Try.func36, Try.ntmps36
  go_wp2_with (first
    | (go_at_call 40; refine (digits_any _ _ (by omega) (by omega)).mono ?_; rintro e w' ⟨rfl, rfl⟩)
    | (at_builtin; (refine wp_app1 rfl (.tmp 9) (.tmp 12) rfl base v l rfl (hown.below ((Below.refl _ _).alloc (Nat.le_refl _) _)) _ _ rfl _ (by simp [go_sem]; rfl) ⟨by omega, by omega⟩ (by omega) (by simp; omega) ?_); intro v1 w1 hown1 hb1))
  have hw1 : Below base w w1 := ((Below.refl _ _).alloc (by omega) _).trans hb1
  have hs1 := hw1.size
  have Hb := Lib.hid hb1
  clear hb1
  go_loopw [0, 6] (fun u i wr => ∃ j : Nat, j ≤ Pl.dgs c.toNat ∧ i = .int .i64 ((Pl.dgs c.toNat : Int) - 1 - j) ∧ OwnB wr base u (l ++ UInt8.ofNat (Pl.dgs c.toNat) :: (Pl.be (Pl.dgs c.toNat) c.toNat).take j) ∧ Below base w wr)
    (fun _ i _ => (intOf i + 1).toNat)
  case atStart => exact ⟨0, by omega, by simp, by simpa using hown1, hw1⟩
  case round =>
    obtain ⟨j, hj, rfl, hownr, hbr⟩ := hrel
    have hbs := hbr.size
    by_cases hlt : j < Pl.dgs c.toNat
    · go_wp2_with (at_builtin; (refine wp_app1 rfl (.tmp 20) (.tmp 26) rfl base _ _ rfl (hownr.below ((Below.refl _ _).alloc (Nat.le_refl _) _)) _ _ rfl _ (by simp [go_sem]; rfl) ⟨by omega, by omega⟩ (by simp; omega) (by simp; omega) ?_); intro v2 w2 hown2 hb2)
      go_roundw
      case rel =>
        refine ⟨j + 1, by omega, by go_num, ?_, hbr.trans (((Below.refl _ _).alloc (by omega) _).trans hb2)⟩
        rw [Pl.be_take_succ _ _ _ hlt, ← Pl.shift_byte c h0]
        simpa using hown2
      case measure => simp [intOf]; omega
    · go_wp2
      go_ret
      have ej : j = Pl.dgs c.toNat := by omega
      subst ej
      refine ⟨_, rfl, ?_, hbr⟩
      rw [List.take_of_length_le (by rw [Pl.be_length]; omega)] at hownr
      exact hownr
end Go.Proofs.Ytnnakfhkejdfcaa
