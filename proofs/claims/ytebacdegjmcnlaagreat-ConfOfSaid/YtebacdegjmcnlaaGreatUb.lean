import Derived.Test.YtebacdegjmcnlaaGreatWc
import Derived.Lib.Builder
namespace Go.Proofs.YtebacdegjmcnlaaGreat
open Go.RowKit Pl
set_option linter.unusedVariables false
/-- all blocks but those of bytes are as they were -/
def Kp (w w' : World) : Prop := ∀ (q : Nat) (cs : Array Value) (T : TypeId) (fr : Nat × Nat), T ≠ 5 → w.heap[q]? = some (.cells cs T fr) → w'.heap[q]? = some (.cells cs T fr)
theorem Kp.refl (w : World) : Kp w w := fun _ _ _ _ _ h => h
theorem Kp.trans {a b c : World} (h : Kp a b) (k : Kp b c) : Kp a c := fun q cs T fr hT hq => k q cs T fr hT (h q cs T fr hT hq)
theorem Kp.alloc {a b : World} (h : Kp a b) (o : Obj) : Kp a (b.alloc o) := fun q cs T fr hT hq => by
  have := h q cs T fr hT hq
  exact (Below.heap_alloc _ _ q (Array.getElem?_eq_some_iff.1 this).1).trans this
theorem Kp.grown {w w' : World} {base n : Nat} {v : Value} {xs : List Value} (h : w.ownsRow base 5 1 v n xs) (hg : w.grownBy w' v.ownBlock) : Kp w w' := fun q cs T fr hT hq =>
  (hg.block q (Array.getElem?_eq_some_iff.1 hq).1 (fun e => Lib.ownBlock_ne h hq hT e.symm)).trans hq
theorem wp_app1k {ops : Array Oper} {rest : List Oper} {o : Oper} {a : Act} {Q : Exit → Act → World → Prop} {w : World} (hgd : o.guard = none) (s x : Operand)
    (ho : o.op = .call { callee := .builtin .append, args := #[s, x], argTypes := #[58, 58] })
    (base : Nat) (v : Value) (l : List UInt8) (hs : a.eval s = v) (hown : OwnB w base v l) (ad : Addr) (c : Nat) (hx : a.eval x = .slice (some ad) 1 c)
    (q : Int) (hcell : w.cell? ad = some (.int .u8 q)) (hq : 0 ≤ q ∧ q < 256) (hlen : l.length ≤ 70368744177664) (hbase : base ≤ w.heap.size)
    (h : ∀ v' w', OwnB w' base v' (l ++ [UInt8.ofNat q.toNat]) → Below base w w' → Kp w w' → wpList Tryz.prog ops Q rest (a.put o.dst v') w') : wpList Tryz.prog ops Q (o :: rest) a w := by
  obtain ⟨i5, hi5, hz0, hz1, hz2⟩ := info_parts info5
  refine wpList_append_own w hgd s x 58 ho base 5 i5 _ 1 1 Tryz.underlying58 hi5 hz0 hz1 hz2 rfl (by omega) v l.length (vB l) hs hown ad 1 c [.int .u8 q] hx rfl ?_ ?_ (by simp only [maxLen]; omega) (by omega) hbase ?_
  · intro j u hu
    match j, hu with
    | 0, hu =>
      simp only [List.getElem?_cons_zero, Option.some.injEq] at hu
      subst hu
      simpa [Addr.add] using hcell
    | j + 1, hu => simp at hu
  · intro u hu
    simp only [List.mem_singleton] at hu
    subst hu
    rfl
  · intro v' w' h2 h3 _
    have e : [Value.int .u8 q] = vB [UInt8.ofNat q.toNat] := by
      have : ((UInt8.ofNat q.toNat).toNat : Int) = q := by
        rw [UInt8.toNat_ofNat']; omega
      rw [vB_one, this]
    refine h v' w' ?_ ((Below.refl _ _).grown h3 hbase fun k hk => (hown.lt k hk).1) (Kp.grown hown h3)
    unfold OwnB
    rw [vB_append, ← e, List.length_append]
    exact h2
theorem wp_appSk {ops : Array Oper} {rest : List Oper} {o : Oper} {a : Act} {Q : Exit → Act → World → Prop} {w : World} (hgd : o.guard = none) (sl x : Operand)
    (ho : o.op = .call { callee := .builtin .append, args := #[sl, x], argTypes := #[58, 9] })
    (base : Nat) (v : Value) (l : List UInt8) (hs : a.eval sl = v) (hown : OwnB w base v l) (s : ByteArray) (hx : a.eval x = .string s)
    (hlen : l.length + s.size ≤ 70368744177664) (hbase : base ≤ w.heap.size)
    (h : ∀ v' w', OwnB w' base v' (l ++ s.data.toList) → Below base w w' → Kp w w' → wpList Tryz.prog ops Q rest (a.put o.dst v') w') : wpList Tryz.prog ops Q (o :: rest) a w := by
  obtain ⟨i5, hi5, hz0, hz1, hz2⟩ := info_parts info5
  refine Lib.wpList_append_own_string w hgd sl x 58 9 ho base 5 i5 Tryz.underlying58 Tryz.underlying9 hi5 hz0 hz1 hz2 v l.length (vB l) hs hown s hx (by simp only [maxLen]; omega) (by omega) hbase ?_
  intro v' w' h2 h3 _
  refine h v' w' ?_ ((Below.refl _ _).grown h3 hbase fun k hk => (hown.lt k hk).1) (Kp.grown hown h3)
  unfold OwnB
  rw [vB_append, ← strCells_vB, List.length_append, show s.data.toList.length = s.size by simp only [Array.length_toList]; rfl]
  exact h2
theorem dgs_spec (n : Nat) (h : n ≤ 18446744073709551615) : (∀ i, i < dgs n → 0 < n / 256 ^ i) ∧ n / 256 ^ dgs n = 0 := by
  have key : ∀ i, i < 8 → (i < dgs n ↔ 256 ^ i ≤ n) := by
    intro i hi
    have : i = 0 ∨ i = 1 ∨ i = 2 ∨ i = 3 ∨ i = 4 ∨ i = 5 ∨ i = 6 ∨ i = 7 := by omega
    unfold dgs
    rcases this with rfl | rfl | rfl | rfl | rfl | rfl | rfl | rfl <;> simp only [Nat.reducePow] <;> repeat' split
    all_goals omega
  constructor
  · intro i hi
    have h8 := dgs_le n
    exact Nat.div_pos ((key i (by omega)).1 hi) (Nat.pow_pos (by decide))
  · apply Nat.div_eq_of_lt
    by_cases h8 : dgs n < 8
    · have := (key (dgs n) h8)
      omega
    · have : dgs n = 8 := by have := dgs_le n; omega
      rw [this]
      omega
def RdRel (n : Nat) (w : World) (k m : Value) (wr : World) : Prop := ∃ i M : Nat, i ≤ dgs n ∧ k = .int .i64 i ∧ m = .int .u64 M ∧ M = n / 256 ^ i ∧ wr = w
def RiRel (n J : Nat) (w : World) (m h : Value) (wr : World) : Prop := ∃ i M : Nat, i ≤ J ∧ h = .int .i64 i ∧ m = .int .u64 M ∧ M = n / 256 ^ i ∧ wr = w
def RoRel (base n d : Nat) (l : List UInt8) (w0 w : World) (u j : Value) (wr : World) : Prop :=
  ∃ (r : Nat) (z : Int), r ≤ d ∧ j = .int .i64 z ∧ z = (d : Int) - 1 - r ∧ OwnB wr base u (l ++ UInt8.ofNat d :: (be d n).take r) ∧ Below base w wr ∧ Kp w0 wr
def AppK (base : Nat) (r : List UInt8) (w : World) (e : Ending) (w' : World) : Prop := ∃ v', e = .returned v' ∧ OwnB w' base v' r ∧ Below base w w' ∧ Kp w w'
theorem byte_nat (x : Nat) : UInt8.ofNat ((x : Int) % 256).toNat = UInt8.ofNat x := by
  have : ((x : Int) % 256).toNat = x % 256 := by omega
  rw [this]
  apply UInt8.toNat_inj.1
  simp
set_option maxRecDepth 20000 in
set_option maxHeartbeats 1000000 in
theorem rcount_any (base : Nat) (v : Value) (l : List UInt8) (n : Nat) (w : World) (hown : OwnB w base v l) (hn : l.length ≤ 1099511627776) (hb : base ≤ w.heap.size) (h1 : n ≤ 18446744073709551615) :
    Calls Tryz.prog 98 #[v, .int .u64 n] w (AppK base (l ++ cntB n) w) := by
  obtain ⟨s1, s2⟩ := dgs_spec n h1
  have h8 := dgs_le n
  have S1 := Lib.hid s1
  have S2 := Lib.hid s2
  have HO := Lib.hid hown
  clear s1 s2 hown
  unfold cntB
  obtain ⟨d, hd⟩ : ∃ d, d = dgs n := ⟨_, rfl⟩
  rw [← hd] at S1 S2 h8 ⊢
  have HD := Lib.hid hd
  clear hd
  go_enter Tryz.func98, Tryz.ntmps98
  go_wp2_with fail
  go_loopw [5, 6] (fun k m wr => RdRel n w k m wr) (fun k _ _ => d - (intOf k).toNat)
  case atStart => exact ⟨0, n, by omega, rfl, rfl, by simp, rfl⟩
  case round =>
    obtain ⟨i, M, hi, rfl, rfl, hM, rfl⟩ := hrel
    rw [← HD.out] at hi
    by_cases hlt : i < d
    · have hp := S1.out i hlt
      rw [← hM] at hp
      have hp2 : (0 : Int) < (M : Int) := by omega
      have hM2 : M / 256 = n / 256 ^ (i + 1) := by rw [hM, Nat.pow_succ, Nat.div_div_eq_div_mul]
      have hM3 : M ≤ 18446744073709551615 := by rw [hM]; exact Nat.le_trans (Nat.div_le_self _ _) h1
      have HM2 := Lib.hid hM2
      clear hM hM2
      go_wp2_with fail
      go_roundw
      case rel => exact ⟨i + 1, M / 256, by rw [← HD.out]; omega, by go_num, by go_num, HM2.out, rfl⟩
      case measure => simp [intOf]; omega
    · have ei : i = d := by omega
      subst ei
      have hM0 : M = 0 := by rw [hM]; exact S2.out
      subst hM0
      clear hM
      go_wp2_with (at_builtin; (refine wp_app1k rfl (.tmp 17) (.tmp 20) rfl base v l rfl (HO.out.below ((Below.refl _ _).alloc (Nat.le_refl _) _)) _ _ rfl _ (by simp [go_sem]; rfl) ⟨by omega, by omega⟩ (by omega) (by simp; omega) ?_); intro v1 w1 hown1 hb1 hk1)
      have hw1 : Below base wr w1 := ((Below.refl _ _).alloc (by omega) _).trans hb1
      have HW1 := Lib.hid hw1
      have HK1 : Hid (Kp wr w1) := Lib.hid (((Kp.refl _).alloc _).trans hk1)
      have HO1 := Lib.hid hown1
      clear hb1 hown1 hw1 hk1
      go_loopw [0, 7] (fun u j wx => RoRel base n i l wr wr u j wx) (fun _ j _ => (intOf j + 1).toNat)
      case atStart => exact ⟨0, _, by omega, rfl, by omega, by simpa using HO1.out, HW1.out, HK1.out⟩
      case round =>
        obtain ⟨r, z, hr, rfl, hz, hownr, hbr, hkr⟩ := hrel
        by_cases hz0 : 0 ≤ z
        · obtain ⟨J, rfl⟩ := Int.eq_ofNat_of_zero_le hz0
          have hJ : J = i - 1 - r := by omega
          have hri : r < i := by omega
          have HJ := Lib.hid hJ
          have HOR := Lib.hid hownr
          have HBR := Lib.hid hbr
          have HKR := Lib.hid hkr
          have hJ8 : J ≤ 8 := by omega
          clear hz hJ hownr hbr hkr
          go_wp2_with fail
          go_loopw [8, 9] (fun m h wy => RiRel n J wr m h wy) (fun _ h _ => J - (intOf h).toNat)
          case atStart => exact ⟨0, n, by omega, rfl, rfl, by simp, rfl⟩
          case round =>
            obtain ⟨q, M, hq, rfl, rfl, hM, rfl⟩ := hrel
            have hM3 : M ≤ 18446744073709551615 := by rw [hM]; exact Nat.le_trans (Nat.div_le_self _ _) h1
            by_cases hlq : q < J
            · have hM2 : M / 256 = n / 256 ^ (q + 1) := by rw [hM, Nat.pow_succ, Nat.div_div_eq_div_mul]
              have HM2 := Lib.hid hM2
              clear hM hM2
              go_wp2_with fail
              go_roundw
              case rel => exact ⟨q + 1, M / 256, by omega, by go_num, by go_num, HM2.out, rfl⟩
              case measure => simp [intOf]; omega
            · have eq : q = J := by omega
              subst eq
              have hlen := HOR.out
              have hw := HBR.out.size
              have HM := Lib.hid hM
              clear hM
              have hlen2 : (be i n).length = i := be_length i n
              go_wp2_with (at_builtin; (refine wp_app1k rfl (.tmp 36) (.tmp 40) rfl base _ _ rfl (HOR.out.below ((Below.refl _ _).alloc (Nat.le_refl _) _)) _ _ rfl _ (by simp [go_sem]; rfl) ⟨by omega, by omega⟩ (by simp; omega) (by simp; omega) ?_); intro v2 w2 hown2 hb2 hk2)
              go_roundw
              case rel =>
                refine ⟨r + 1, _, by omega, rfl, by have := HJ.out; omega, ?_, HBR.out.trans (((Below.refl _ _).alloc (by omega) _).trans hb2), HKR.out.trans (((Kp.refl _).alloc _).trans hk2)⟩
                rw [be_take_succ _ _ _ hri, ← HJ.out, ← HM.out]
                rw [byte_nat] at hown2
                simpa using hown2
              case measure => simp [intOf] <;> omega
        · have er : r = i := by omega
          subst er
          go_wp2_with fail
          go_ret
          refine ⟨_, rfl, ?_, hbr, hkr⟩
          rw [List.take_of_length_le (by rw [be_length]; omega)] at hownr
          exact hownr
end Go.Proofs.YtebacdegjmcnlaaGreat
