import Derived.Test.YtjcikhacekmcfaaGreatDoorRows
import Derived.Test.YtjcikhacekmcfaaGreatDoorMa
import Derived.WalkKit
import Derived.ProofKit
import Derived.WalkLawsBesides
import Derived.Outline
import Derived.Deep.QuietTactic
import Derived.BigQuiet
import Derived.Laws.BitsAllLaws
import Derived.Lib.AppendStr
import Derived.LoopTactic
import Derived.Lib.Hide
namespace Go.Proofs.YtjcikhacekmcfaaGreatDoor.Wr
set_option maxRecDepth 20000
open Go.RowKit
set_option linter.unusedVariables false

def Len64Post (n : Int) (w : World) (e : Ending) (w' : World) : Prop := ∃ r : Int, e = .returned (.int .i64 r) ∧ 0 ≤ r ∧ r ≤ 64 ∧ (r + 7) / 8 = Pl.dgs n.toNat ∧ w = w'

theorem len64_core (n : Int) (w : World) (b : Int) (x : Int) (hx : 0 ≤ x ∧ x < 256) (h : x.toNat < Pl.tab.size) (hb : 0 ≤ b ∧ b ≤ 56) (hb8 : b % 8 = 0) (hd : (Pl.dgs n.toNat : Int) = b / 8 + (if x = 0 then 0 else 1)) :
   Len64Post n w (.returned (.int .i64 (wrap64 (b + wrap64 ((Pl.tab[x.toNat]'h).toNat : Int))))) w := by
  have ht := Pl.tab_at x.toNat h
  generalize (Pl.tab[x.toNat]'h).toNat = t at ht
  have e1 : wrap64 (t : Int) = t := IntWalk.wrap64_in _ ⟨by omega, by omega⟩
  have e2 : wrap64 (b + (t : Int)) = b + t := IntWalk.wrap64_in _ ⟨by omega, by omega⟩
  refine ⟨b + t, by rw [e1, e2], by omega, by omega, ?_, rfl⟩
  rw [hd]
  split
  · omega
  · omega

theorem len64_core0 (n : Int) (w : World) (x : Int) (hx : 0 ≤ x ∧ x < 256) (h : x.toNat < Pl.tab.size) (hd : (Pl.dgs n.toNat : Int) = (if x = 0 then 0 else 1)) :
   Len64Post n w (.returned (.int .i64 (wrap64 (wrap64 ((Pl.tab[x.toNat]'h).toNat : Int))))) w := by
  have := len64_core n w 0 x hx h ⟨by omega, by omega⟩ (by omega) (by rw [hd]; omega)
  rwa [Int.zero_add] at this

set_option maxRecDepth 20000 in
theorem len64_0 (n : Int) (w : World) (h0 : 0 ≤ n) (h1 : n < 256)  : Calls Tryz.prog 185 #[.int .u64 n] w (Len64Post n w) := by
  go_enter Tryz.func185, Tryz.ntmps185
  go_wp2_with fail
  go_ret
  refine len64_core0 n w n (by omega) _ ?_
  unfold Pl.dgs
  repeat' split
  all_goals omega
set_option maxRecDepth 20000 in
theorem len64_1 (n : Int) (w : World) (h0 : 256 ≤ n) (h1 : n < 65536)  : Calls Tryz.prog 185 #[.int .u64 n] w (Len64Post n w) := by
  go_enter Tryz.func185, Tryz.ntmps185
  go_wp2_with fail
  go_ret
  refine len64_core n w _ _ (by omega) _ ⟨by omega, by omega⟩ (by omega) ?_
  unfold Pl.dgs
  repeat' split
  all_goals omega
set_option maxRecDepth 20000 in
theorem len64_2 (n : Int) (w : World) (h0 : 65536 ≤ n) (h1 : n < 16777216)  : Calls Tryz.prog 185 #[.int .u64 n] w (Len64Post n w) := by
  go_enter Tryz.func185, Tryz.ntmps185
  go_wp2_with fail
  go_ret
  refine len64_core n w _ _ (by omega) _ ⟨by omega, by omega⟩ (by omega) ?_
  unfold Pl.dgs
  repeat' split
  all_goals omega
set_option maxRecDepth 20000 in
theorem len64_3 (n : Int) (w : World) (h0 : 16777216 ≤ n) (h1 : n < 4294967296)  : Calls Tryz.prog 185 #[.int .u64 n] w (Len64Post n w) := by
  go_enter Tryz.func185, Tryz.ntmps185
  go_wp2_with fail
  go_ret
  refine len64_core n w _ _ (by omega) _ ⟨by omega, by omega⟩ (by omega) ?_
  unfold Pl.dgs
  repeat' split
  all_goals omega
set_option maxRecDepth 20000 in
theorem len64_4 (n : Int) (w : World) (h0 : 4294967296 ≤ n) (h1 : n < 1099511627776)  : Calls Tryz.prog 185 #[.int .u64 n] w (Len64Post n w) := by
  go_enter Tryz.func185, Tryz.ntmps185
  go_wp2_with fail
  go_ret
  refine len64_core n w _ _ (by omega) _ ⟨by omega, by omega⟩ (by omega) ?_
  unfold Pl.dgs
  repeat' split
  all_goals omega
set_option maxRecDepth 20000 in
theorem len64_5 (n : Int) (w : World) (h0 : 1099511627776 ≤ n) (h1 : n < 281474976710656)  : Calls Tryz.prog 185 #[.int .u64 n] w (Len64Post n w) := by
  go_enter Tryz.func185, Tryz.ntmps185
  go_wp2_with fail
  go_ret
  refine len64_core n w _ _ (by omega) _ ⟨by omega, by omega⟩ (by omega) ?_
  unfold Pl.dgs
  repeat' split
  all_goals omega
set_option maxRecDepth 20000 in
theorem len64_6 (n : Int) (w : World) (h0 : 281474976710656 ≤ n) (h1 : n < 72057594037927936)  : Calls Tryz.prog 185 #[.int .u64 n] w (Len64Post n w) := by
  go_enter Tryz.func185, Tryz.ntmps185
  go_wp2_with fail
  go_ret
  refine len64_core n w _ _ (by omega) _ ⟨by omega, by omega⟩ (by omega) ?_
  unfold Pl.dgs
  repeat' split
  all_goals omega
set_option maxRecDepth 20000 in
theorem len64_7 (n : Int) (w : World) (h0 : 72057594037927936 ≤ n) (h1 : n ≤ 18446744073709551615) : Calls Tryz.prog 185 #[.int .u64 n] w (Len64Post n w) := by
  go_enter Tryz.func185, Tryz.ntmps185
  go_wp2_with fail
  go_ret
  refine len64_core n w _ _ (by omega) _ ⟨by omega, by omega⟩ (by omega) ?_
  unfold Pl.dgs
  repeat' split
  all_goals omega

theorem len64_any (n : Int) (w : World) (h0 : 0 ≤ n) (h1 : n ≤ 18446744073709551615) : Calls Tryz.prog 185 #[.int .u64 n] w (Len64Post n w) := by
  by_cases c1 : n < 256
  · exact len64_0 n w h0 c1
  by_cases c2 : n < 65536
  · exact len64_1 n w (by omega) c2
  by_cases c3 : n < 16777216
  · exact len64_2 n w (by omega) c3
  by_cases c4 : n < 4294967296
  · exact len64_3 n w (by omega) c4
  by_cases c5 : n < 1099511627776
  · exact len64_4 n w (by omega) c5
  by_cases c6 : n < 281474976710656
  · exact len64_5 n w (by omega) c6
  by_cases c7 : n < 72057594037927936
  · exact len64_6 n w (by omega) c7
  exact len64_7 n w (by omega) h1

def DigitsPost (n : Int) (w : World) (e : Ending) (w' : World) : Prop := e = .returned (.int .i64 (Pl.dgs n.toNat)) ∧ w = w'
theorem digits_any (n : Int) (w : World) (h0 : 0 ≤ n) (h1 : n ≤ 18446744073709551615) : Calls Tryz.prog 251 #[.int .u64 n] w (DigitsPost n w) := by
  go_enter Tryz.func251, Tryz.ntmps251
  go_wp2_with (go_at_call 185; refine (len64_any _ _ (by omega) (by omega)).mono ?_; rintro e w' ⟨r, rfl, hr0, hr1, hr2, rfl⟩)
  go_ret
  exact ⟨by rw [← hr2]; rfl, rfl⟩

theorem countSize_any (n : Int) (w : World) (h0 : 0 ≤ n) (h1 : n ≤ 18446744073709551615) : Calls Tryz.prog 254 #[.int .u64 n] w fun e w' => e = .returned (.int .i64 (1 + Pl.dgs n.toNat)) ∧ w = w' := by
  have hd := Pl.dgs_le n.toNat
  go_enter Tryz.func254, Tryz.ntmps254
  go_wp2_with (go_at_call 251; refine (digits_any _ _ (by omega) (by omega)).mono ?_; rintro e w' ⟨rfl, rfl⟩)
  go_ret
  exact ⟨rfl, rfl⟩

theorem xor_ones (x : Nat) (hx : x < 18446744073709551616) : x ^^^ 18446744073709551615 = 18446744073709551615 - x := by
  have h : (BitVec.ofNat 64 x ^^^ BitVec.allOnes 64).toNat = (~~~ (BitVec.ofNat 64 x)).toNat := by rw [BitVec.xor_allOnes]
  rw [BitVec.toNat_xor, BitVec.toNat_not, BitVec.toNat_ofNat, BitVec.toNat_allOnes, Nat.mod_eq_of_lt (by simpa using hx)] at h
  simpa using h
theorem fold_value (n : Int) (h0 : -9223372036854775808 ≤ n) (h1 : n ≤ 9223372036854775807) :
    bits BinOp.xor IntKind.u64 (IntKind.u64.wrap (IntKind.u64.wrap n * 2)) (IntKind.u64.wrap (n / 9223372036854775808)) = (Pl.foldN n : Int) := by
  simp only [IntKind.wrap_u64]
  unfold Pl.foldN
  by_cases c : n < 0
  · rw [if_pos c]
    obtain ⟨x, hx⟩ : ∃ x : Nat, n % 18446744073709551616 * 2 % 18446744073709551616 = (x : Int) := ⟨(n % 18446744073709551616 * 2 % 18446744073709551616).toNat, by omega⟩
    have e : n / 9223372036854775808 % 18446744073709551616 = ((18446744073709551615 : Nat) : Int) := by omega
    rw [hx, e, u64_xor_nat _ _ (by omega) (by omega), xor_ones x (by omega)]
    omega
  · rw [if_neg c]
    obtain ⟨x, hx⟩ : ∃ x : Nat, n % 18446744073709551616 * 2 % 18446744073709551616 = (x : Int) := ⟨(n % 18446744073709551616 * 2 % 18446744073709551616).toNat, by omega⟩
    have e : n / 9223372036854775808 % 18446744073709551616 = ((0 : Nat) : Int) := by omega
    rw [hx, e, u64_xor_nat _ _ (by omega) (by omega), Nat.xor_zero]
    omega
theorem foldN_lt (n : Int) (h0 : -9223372036854775808 ≤ n) (h1 : n ≤ 9223372036854775807) : (Pl.foldN n : Int) ≤ 18446744073709551615 := by
  unfold Pl.foldN; split <;> omega

set_option maxRecDepth 20000 in
theorem fold_any (n : Int) (w : World) (h0 : -9223372036854775808 ≤ n) (h1 : n ≤ 9223372036854775807) :
    Calls Tryz.prog 236 #[.int .i64 n] w fun e w' => e = .returned (.int .u64 (Pl.foldN n)) ∧ w = w' := by
  go_enter Tryz.func236, Tryz.ntmps236
  go_wp2_with fail
  go_ret
  exact ⟨by rw [← fold_value n h0 h1]; rfl, rfl⟩

def unfoldI (n : Int) : Int := if n % 2 = 0 then n / 2 else -(n / 2) - 1
theorem unfold_value (n : Int) (h0 : 0 ≤ n) (h1 : n ≤ 18446744073709551615) :
    bits BinOp.xor IntKind.i64 (n / 2) (wrap64 (-wrap64 (bits BinOp.and IntKind.u64 n 1))) = unfoldI n := by
  obtain ⟨m, rfl⟩ := Int.eq_ofNat_of_zero_le h0
  have e : bits BinOp.and IntKind.u64 (m : Int) 1 = ((m % 2 : Nat) : Int) := by
    have := u64_and_nat m 1 (by omega) (by omega)
    rw [Nat.and_one_is_mod] at this
    exact_mod_cast this
  have e1 : wrap64 ((m % 2 : Nat) : Int) = ((m % 2 : Nat) : Int) := IntWalk.wrap64_in _ ⟨by omega, by omega⟩
  have e2 : wrap64 (-((m % 2 : Nat) : Int)) = -((m % 2 : Nat) : Int) := IntWalk.wrap64_in _ ⟨by omega, by omega⟩
  rw [e, e1, e2]
  have hx : ((m : Int) / 2) = ((m / 2 : Nat) : Int) := by omega
  rw [hx]
  have hlt : m / 2 < 9223372036854775808 := by omega
  unfold unfoldI
  by_cases c : m % 2 = 0
  · rw [if_pos (by omega), c]
    show IntKind.i64.wrap ((BitVec.ofInt 64 ((m / 2 : Nat) : Int) ^^^ BitVec.ofInt 64 (-((0:Nat):Int))).toNat : Int) = _
    have h0 : BitVec.ofInt 64 (-((0:Nat):Int)) = 0#64 := by decide
    rw [h0, BitVec.xor_zero, BitVec.ofInt_natCast, BitVec.toNat_ofNat, Nat.mod_eq_of_lt (by omega), IntKind.wrap_i64]
    omega
  · have c1 : m % 2 = 1 := by omega
    rw [if_neg (by omega), c1]
    show IntKind.i64.wrap ((BitVec.ofInt 64 ((m / 2 : Nat) : Int) ^^^ BitVec.ofInt 64 (-((1:Nat):Int))).toNat : Int) = _
    have h0 : BitVec.ofInt 64 (-((1:Nat):Int)) = BitVec.allOnes 64 := by decide
    rw [h0, BitVec.xor_allOnes, BitVec.toNat_not, BitVec.ofInt_natCast, BitVec.toNat_ofNat, Nat.mod_eq_of_lt (by omega), IntKind.wrap_i64]
    omega

set_option maxRecDepth 20000 in
theorem unfold_any (n : Int) (w : World) (h0 : 0 ≤ n) (h1 : n ≤ 18446744073709551615) :
    Calls Tryz.prog 240 #[.int .u64 n] w fun e w' => e = .returned (.int .i64 (unfoldI n)) ∧ w = w' := by
  go_enter Tryz.func240, Tryz.ntmps240
  go_wp2_with fail
  go_ret
  exact ⟨by rw [← unfold_value n h0 h1]; rfl, rfl⟩

end Go.Proofs.YtjcikhacekmcfaaGreatDoor.Wr
namespace Go.Proofs.YtjcikhacekmcfaaGreatDoor.Wr
set_option maxRecDepth 20000
open Go.RowKit
set_option linter.unusedVariables false

/-- bytes as cells -/
def vB (l : List UInt8) : List Value := l.map fun b => .int .u8 (b.toNat : Int)
theorem vB_length (l : List UInt8) : (vB l).length = l.length := by simp [vB]
theorem vB_append (a b : List UInt8) : vB (a ++ b) = vB a ++ vB b := by simp [vB]
theorem vB_one (a : UInt8) : vB [a] = [.int .u8 (a.toNat : Int)] := rfl
theorem vB_oneCell (l : List UInt8) : ∀ u ∈ vB l, u.oneCell' = true := by
  intro u hu; simp only [vB, List.mem_map] at hu; obtain ⟨b, _, rfl⟩ := hu; rfl

theorem info5 : (Tryz.prog.info? 5).map (fun i => (i.zero, i.size, i.bytes)) = some (some (.int .u8 0), 1, 1) := by kernel_rfl

def OwnB (w : World) (base : Nat) (v : Value) (l : List UInt8) : Prop := w.ownsRow base 5 1 v l.length (vB l)


theorem OwnB.below {w w' : World} {base : Nat} {v : Value} {l : List UInt8} (h : OwnB w base v l) (hb : Below w.heap.size w w') : OwnB w' base v l := by
  refine ⟨h.1, ?_⟩
  rcases h.2 with hn | ⟨g, cap, cur, rfl, hg, hgg, r⟩
  · exact .inl hn
  · exact .inr ⟨g, cap, cur, rfl, hg, by rw [hb.block g (Array.getElem?_eq_some_iff.1 hgg).1]; exact hgg, r⟩

/-- append of one byte, that stands in a cell -/
theorem wp_app1 {ops : Array Oper} {rest : List Oper} {o : Oper} {a : Act} {Q : Exit → Act → World → Prop} {w : World} (hgd : o.guard = none) (s x : Operand)
    (ho : o.op = .call { callee := .builtin .append, args := #[s, x], argTypes := #[60, 60] })
    (base : Nat) (v : Value) (l : List UInt8) (hs : a.eval s = v) (hown : OwnB w base v l) (ad : Addr) (c : Nat) (hx : a.eval x = .slice (some ad) 1 c)
    (q : Int) (hcell : w.cell? ad = some (.int .u8 q)) (hq : 0 ≤ q ∧ q < 256) (hlen : l.length ≤ 70368744177664) (hbase : base ≤ w.heap.size)
    (h : ∀ v' w', OwnB w' base v' (l ++ [UInt8.ofNat q.toNat]) → Below base w w' → wpList Tryz.prog ops Q rest (a.put o.dst v') w') : wpList Tryz.prog ops Q (o :: rest) a w := by
  obtain ⟨i5, hi5, hz0, hz1, hz2⟩ := info_parts info5
  refine wpList_append_own w hgd s x 60 ho base 5 i5 _ 1 1 Tryz.underlying60 hi5 hz0 hz1 hz2 rfl (by omega) v l.length (vB l) hs hown ad 1 c [.int .u8 q] hx rfl ?_ ?_ (by simp only [maxLen]; omega) (by omega) hbase ?_
  · intro j u hu
    match j, hu with
    | 0, hu =>
      simp only [List.getElem?_cons_zero, Option.some.injEq] at hu
      subst hu
      simpa [Addr.add] using hcell
    | j + 1, hu => simp at hu
  · intro u hu
    simp only [List.mem_singleton] at hu
    subst hu
    rfl
  · intro v' w' h2 h3 _
    have e : [Value.int .u8 q] = vB [UInt8.ofNat q.toNat] := by
      have : ((UInt8.ofNat q.toNat).toNat : Int) = q := by
        rw [UInt8.toNat_ofNat']; omega
      rw [vB_one, this]
    refine h v' w' ?_ ((Below.refl _ _).grown h3 hbase fun k hk => (hown.lt k hk).1)
    unfold OwnB
    rw [vB_append, ← e, List.length_append]
    exact h2

def AppPost (base : Nat) (r : List UInt8) (w : World) (e : Ending) (w' : World) : Prop := ∃ v', e = .returned v' ∧ OwnB w' base v' r ∧ Below base w w'

set_option maxRecDepth 20000 in
theorem appendCount_any (base : Nat) (v : Value) (l : List UInt8) (c : Int) (w : World) (hown : OwnB w base v l) (hn : l.length ≤ 1099511627776) (hb : base ≤ w.heap.size) (h0 : 0 ≤ c) (h1 : c ≤ 18446744073709551615) :
    Calls Tryz.prog 235 #[v, .int .u64 c] w (AppPost base (l ++ Pl.cntB c.toNat) w) := by
  have hd := Pl.dgs_le c.toNat
  go_enter Tryz.func235, Tryz.ntmps235
  go_wp2_with (first
    | (go_at_call 251; refine (digits_any _ _ (by omega) (by omega)).mono ?_; rintro e w' ⟨rfl, rfl⟩)
    | (at_builtin; (refine wp_app1 rfl (.tmp 9) (.tmp 12) rfl base v l rfl (hown.below ((Below.refl _ _).alloc (Nat.le_refl _) _)) _ _ rfl _ (by simp [go_sem]; rfl) ⟨by omega, by omega⟩ (by omega) (by simp; omega) ?_); intro v1 w1 hown1 hb1))
  have hw1 : Below base w w1 := ((Below.refl _ _).alloc (by omega) _).trans hb1
  have hs1 := hw1.size
  have Hb := Lib.hid hb1
  clear hb1
  go_loopw [0, 6] (fun u i wr => ∃ j : Nat, j ≤ Pl.dgs c.toNat ∧ i = .int .i64 ((Pl.dgs c.toNat : Int) - 1 - j) ∧ OwnB wr base u (l ++ UInt8.ofNat (Pl.dgs c.toNat) :: (Pl.be (Pl.dgs c.toNat) c.toNat).take j) ∧ Below base w wr)
    (fun _ i _ => (intOf i + 1).toNat)
  case atStart => exact ⟨0, by omega, by simp, by simpa using hown1, hw1⟩
  case round =>
    obtain ⟨j, hj, rfl, hownr, hbr⟩ := hrel
    have hbs := hbr.size
    by_cases hlt : j < Pl.dgs c.toNat
    · go_wp2_with (at_builtin; (refine wp_app1 rfl (.tmp 20) (.tmp 26) rfl base _ _ rfl (hownr.below ((Below.refl _ _).alloc (Nat.le_refl _) _)) _ _ rfl _ (by simp [go_sem]; rfl) ⟨by omega, by omega⟩ (by simp; omega) (by simp; omega) ?_); intro v2 w2 hown2 hb2)
      go_roundw
      case rel =>
        refine ⟨j + 1, by omega, by go_num, ?_, hbr.trans (((Below.refl _ _).alloc (by omega) _).trans hb2)⟩
        rw [Pl.be_take_succ _ _ _ hlt, ← Pl.shift_byte c h0]
        simpa using hown2
      case measure => simp [intOf]; omega
    · go_wp2
      go_ret
      have ej : j = Pl.dgs c.toNat := by omega
      subst ej
      refine ⟨_, rfl, ?_, hbr⟩
      rw [List.take_of_length_le (by rw [Pl.be_length]; omega)] at hownr
      exact hownr
end Go.Proofs.YtjcikhacekmcfaaGreatDoor.Wr
namespace Go.Proofs.YtjcikhacekmcfaaGreatDoor.Wr
set_option maxRecDepth 20000
open Go.RowKit
set_option linter.unusedVariables false

def mean (k n : Int) (s : ByteArray) (m : Nat) (sl : Value) : Value :=
  if k = 1 ∧ s.size = 0 ∧ m = 0 then .iface 2 (.int .i64 n) else if k = 2 ∧ n = 0 ∧ m = 0 then .iface 9 (.string s)
  else if k = 3 ∧ n = 0 ∧ s.size = 0 then .iface 159 sl else .nilIface

def RetBelow (v : Value) (w : World) (e : Ending) (w' : World) : Prop := e = .returned v ∧ Below w.heap.size w w'

theorem size_toList (s : ByteArray) : s.size = s.toList.length := by rw [ByteArray.toList_eq]; simp only [Array.length_toList]; rfl
theorem empty_of_size {s : ByteArray} (h : s.size = 0) : s.toList = [] := List.eq_nil_of_length_eq_zero (by rw [← size_toList]; exact h)
theorem isEmpty_of_size {s : ByteArray} (h : ¬ s.size = 0) : s.toList.isEmpty = false := by
  cases hs : s.toList with
  | nil => exact absurd (by rw [size_toList, hs]; rfl) h
  | cons x r => rfl

set_option maxRecDepth 20000 in
theorem meaning_1 (n : Int) (s : ByteArray) (a : Option Addr) (m c : Nat) (w : World) (hs : s.toList = []) :
    Calls Tryz.prog 234 #[.agg #[.int .i64 1, .int .i64 n, .string s, .slice a 0 c]] w (RetBelow (.iface 2 (.int .i64 n)) w) := by
  have hs' : (!s.toList.isEmpty) = false := by simp [hs]
  go_enter Tryz.func234, Tryz.ntmps234
  go_wp2_with fail
  go_ret
  exact ⟨rfl, (Below.refl _ _).alloc (Nat.le_refl _) _⟩
set_option maxRecDepth 20000 in
theorem meaning_1s (n : Int) (s : ByteArray) (a : Option Addr) (m c : Nat) (w : World) (hs : s.toList.isEmpty = false) :
    Calls Tryz.prog 234 #[.agg #[.int .i64 1, .int .i64 n, .string s, .slice a m c]] w (RetBelow (.nilIface) w) := by
  go_enter Tryz.func234, Tryz.ntmps234
  go_wp2_with fail
  go_ret
  exact ⟨rfl, (Below.refl _ _).alloc (Nat.le_refl _) _⟩
set_option maxRecDepth 20000 in
theorem meaning_1m (n : Int) (s : ByteArray) (a : Option Addr) (m c : Nat) (w : World) (hs : s.toList = []) (hm : ((m : Int) == 0) = false) :
    Calls Tryz.prog 234 #[.agg #[.int .i64 1, .int .i64 n, .string s, .slice a m c]] w (RetBelow (.nilIface) w) := by
  have hs' : (!s.toList.isEmpty) = false := by simp [hs]
  go_enter Tryz.func234, Tryz.ntmps234
  go_wp2_with fail
  go_ret
  exact ⟨rfl, (Below.refl _ _).alloc (Nat.le_refl _) _⟩
set_option maxRecDepth 20000 in
theorem meaning_2 (n : Int) (s : ByteArray) (a : Option Addr) (m c : Nat) (w : World) (hn : (n == 0) = true) :
    Calls Tryz.prog 234 #[.agg #[.int .i64 2, .int .i64 n, .string s, .slice a 0 c]] w (RetBelow (.iface 9 (.string s)) w) := by
  obtain rfl : n = 0 := by simpa using hn
  clear hn
  go_enter Tryz.func234, Tryz.ntmps234
  go_wp2_with fail
  go_ret
  exact ⟨rfl, (Below.refl _ _).alloc (Nat.le_refl _) _⟩
set_option maxRecDepth 20000 in
theorem meaning_2n (n : Int) (s : ByteArray) (a : Option Addr) (m c : Nat) (w : World) (hn : (n == 0) = false) :
    Calls Tryz.prog 234 #[.agg #[.int .i64 2, .int .i64 n, .string s, .slice a m c]] w (RetBelow (.nilIface) w) := by
  go_enter Tryz.func234, Tryz.ntmps234
  go_wp2_with fail
  go_ret
  exact ⟨rfl, (Below.refl _ _).alloc (Nat.le_refl _) _⟩
set_option maxRecDepth 20000 in
theorem meaning_2m (n : Int) (s : ByteArray) (a : Option Addr) (m c : Nat) (w : World) (hn : (n == 0) = true) (hm : ((m : Int) == 0) = false) :
    Calls Tryz.prog 234 #[.agg #[.int .i64 2, .int .i64 n, .string s, .slice a m c]] w (RetBelow (.nilIface) w) := by
  obtain rfl : n = 0 := by simpa using hn
  clear hn
  go_enter Tryz.func234, Tryz.ntmps234
  go_wp2_with fail
  go_ret
  exact ⟨rfl, (Below.refl _ _).alloc (Nat.le_refl _) _⟩
set_option maxRecDepth 20000 in
theorem meaning_3 (n : Int) (s : ByteArray) (a : Option Addr) (m c : Nat) (w : World) (hn : (n == 0) = true) (hs : s.toList = []) :
    Calls Tryz.prog 234 #[.agg #[.int .i64 3, .int .i64 n, .string s, .slice a m c]] w (RetBelow (.iface 159 (.slice a m c)) w) := by
  obtain rfl : n = 0 := by simpa using hn
  clear hn
  have hs' : (!s.toList.isEmpty) = false := by simp [hs]
  go_enter Tryz.func234, Tryz.ntmps234
  go_wp2_with fail
  go_ret
  exact ⟨rfl, (Below.refl _ _).alloc (Nat.le_refl _) _⟩
set_option maxRecDepth 20000 in
theorem meaning_3n (n : Int) (s : ByteArray) (a : Option Addr) (m c : Nat) (w : World) (hn : (n == 0) = false) :
    Calls Tryz.prog 234 #[.agg #[.int .i64 3, .int .i64 n, .string s, .slice a m c]] w (RetBelow (.nilIface) w) := by
  go_enter Tryz.func234, Tryz.ntmps234
  go_wp2_with fail
  go_ret
  exact ⟨rfl, (Below.refl _ _).alloc (Nat.le_refl _) _⟩
set_option maxRecDepth 20000 in
theorem meaning_3s (n : Int) (s : ByteArray) (a : Option Addr) (m c : Nat) (w : World) (hn : (n == 0) = true) (hs : s.toList.isEmpty = false) :
    Calls Tryz.prog 234 #[.agg #[.int .i64 3, .int .i64 n, .string s, .slice a m c]] w (RetBelow (.nilIface) w) := by
  obtain rfl : n = 0 := by simpa using hn
  clear hn
  go_enter Tryz.func234, Tryz.ntmps234
  go_wp2_with fail
  go_ret
  exact ⟨rfl, (Below.refl _ _).alloc (Nat.le_refl _) _⟩
set_option maxRecDepth 20000 in
theorem meaning_0 (k n : Int) (s : ByteArray) (a : Option Addr) (m c : Nat) (w : World) (h1 : (k == 1) = false) (h2 : (k == 2) = false) (h3 : (k == 3) = false) :
    Calls Tryz.prog 234 #[.agg #[.int .i64 k, .int .i64 n, .string s, .slice a m c]] w (RetBelow (.nilIface) w) := by
  go_enter Tryz.func234, Tryz.ntmps234
  go_wp2_with fail
  go_ret
  exact ⟨rfl, (Below.refl _ _).alloc (Nat.le_refl _) _⟩

theorem meaning_any (k n : Int) (s : ByteArray) (a : Option Addr) (m c : Nat) (w : World) :
    Calls Tryz.prog 234 #[.agg #[.int .i64 k, .int .i64 n, .string s, .slice a m c]] w (RetBelow (mean k n s m (.slice a m c)) w) := by
  by_cases h1 : k = 1
  · subst h1
    by_cases hs : s.size = 0
    · by_cases hm : m = 0
      · subst hm; rw [mean, if_pos ⟨rfl, hs, rfl⟩]; exact meaning_1 n s a 0 c w (empty_of_size hs)
      · rw [mean, if_neg (by simp [hm]), if_neg (by simp), if_neg (by simp)]
        exact meaning_1m n s a m c w (empty_of_size hs) (by simp; omega)
    · rw [mean, if_neg (by simp [hs]), if_neg (by simp), if_neg (by simp)]
      exact meaning_1s n s a m c w (isEmpty_of_size hs)
  by_cases h2 : k = 2
  · subst h2
    rw [mean, if_neg (by simp)]
    by_cases hn : n = 0
    · by_cases hm : m = 0
      · subst hm; rw [if_pos ⟨rfl, hn, rfl⟩]; exact meaning_2 n s a 0 c w (by simpa using hn)
      · rw [if_neg (by simp [hm]), if_neg (by simp)]; exact meaning_2m n s a m c w (by simpa using hn) (by simp; omega)
    · rw [if_neg (by simp [hn]), if_neg (by simp)]; exact meaning_2n n s a m c w (by simpa using hn)
  by_cases h3 : k = 3
  · subst h3
    rw [mean, if_neg (by simp), if_neg (by simp)]
    by_cases hn : n = 0
    · by_cases hs : s.size = 0
      · rw [if_pos ⟨rfl, hn, hs⟩]; exact meaning_3 n s a m c w (by simpa using hn) (empty_of_size hs)
      · rw [if_neg (by simp [hs])]; exact meaning_3s n s a m c w (by simpa using hn) (isEmpty_of_size hs)
    · rw [if_neg (by simp [hn])]; exact meaning_3n n s a m c w (by simpa using hn)
  rw [mean, if_neg (by simp [h1]), if_neg (by simp [h2]), if_neg (by simp [h3])]
  exact meaning_0 k n s a m c w (by simpa using h1) (by simpa using h2) (by simpa using h3)
end Go.Proofs.YtjcikhacekmcfaaGreatDoor.Wr
