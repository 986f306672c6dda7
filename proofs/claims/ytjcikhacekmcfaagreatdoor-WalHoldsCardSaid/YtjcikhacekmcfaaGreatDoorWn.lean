import Derived.Test.YtjcikhacekmcfaaGreatDoorSh
import Derived.Test.YtjcikhacekmcfaaGreatDoorNb
import Derived.Test.YtjcikhacekmcfaaGreatDoorWl
namespace Go.Proofs.YtjcikhacekmcfaaGreatDoor
open Go.RowKit Go.Sort
set_option linter.unusedVariables false
set_option maxRecDepth 100000

/-! ### what the library's own variables hold -/
structure Glob (w : World) : Prop where
  tab : ∃ t fz, w.heap[1]? = some (.cells (Lib.pow10Tab.map fun z => Value.int .u64 z).toArray t fz)
  syn : ∃ tp p t fz, w.heap[2]? = some (.cells #[.iface tp p] t fz)
theorem Glob.keep {w w' : World} (h : Glob w) (hk : ∀ k, k < 3 → w'.heap[k]? = w.heap[k]?) : Glob w' := by
  obtain ⟨⟨t, fz, h1⟩, ⟨tp, p, t2, fz2, h2⟩⟩ := h
  exact ⟨⟨t, fz, (hk 1 (by omega)).trans h1⟩, ⟨tp, p, t2, fz2, (hk 2 (by omega)).trans h2⟩⟩
theorem Glob.size {w : World} (h : Glob w) : 3 ≤ w.heap.size := by
  obtain ⟨_, ⟨tp, p, t2, fz2, h2⟩⟩ := h
  exact (Array.getElem?_eq_some_iff.1 h2).1
theorem Glob.below {w w' : World} (h : Glob w) {B : Nat} (hB : 3 ≤ B) (hb : Below B w w') : Glob w' := h.keep fun k hk => hb.block k (by omega)
theorem Glob.belows {w w' : World} (h : Glob w) (hb : Below w.heap.size w w') : Glob w' := h.below h.size hb
theorem var_of {P : Program} {nm : String} {g : Nat} (hg : P.globalNamed nm = some g) {w : World} {cs : Array Value} {t : TypeId} {fz : Nat × Nat} (h : w.heap[g]? = some (.cells cs t fz)) : w.var? P nm = some cs := by
  unfold World.var?
  rw [hg]
  simp only [Option.bind_some, h]
theorem below_grow (w : World) (os : Array Obj) (n : Nat) : Below w.heap.size w (grow (w.drewN n) os) :=
  ⟨rfl, rfl, rfl, by simp [grow, World.drewN], fun k hk => by simp only [grow]; rw [Array.getElem?_append_left (by simpa [World.drewN] using hk)]; rfl⟩

/-! ### texts -/
theorem str_append (a b : List UInt8) : str a ++ str b = str (a ++ b) := by
  unfold str
  apply ByteArray.ext
  rw [ByteArray.data_append]
  simp
theorem str_data (a : List UInt8) : (str a).data.toList = a := by simp [str]

theorem name_any (l : List UInt8) (w : World) : Calls Tryz.prog 84 #[.string (str l)] w fun e w' => e = .returned (.string (str l)) ∧ w = w' := by
  go_enter Tryz.func84, Tryz.ntmps84
  go_wp2_with fail
  go_ret
  exact ⟨rfl, rfl⟩
theorem newName_any (l : List UInt8) (w : World) (hl : l.length ≤ 1000) : Calls Tryz.prog 82 #[.string (str l)] w fun e w' => e = .returned (.string (str (l ++ PWal.dotNew))) ∧ w = w' := by
  have h : str l ++ ⟨#[46, 110, 101, 119]⟩ = str (l ++ PWal.dotNew) := str_append l PWal.dotNew
  have hs : ¬ 9223372036854775807 < (str l).size + 4 := by rw [str_size]; omega
  generalize str (l ++ PWal.dotNew) = r at *
  go_enter Tryz.func82, Tryz.ntmps82
  go_wp2_with fail
  go_ret
  exact ⟨rfl, rfl⟩

/-! ### a segment's name -/
theorem fmt_any (n : Nat) (w : World) (hn : n ≤ 9999999999) (hG : Glob w) : Calls Tryz.prog 121 #[.int .i64 (n : Nat), .int .i64 10] w fun e w' => e = .returned (.string (str (Lib.decDigits n))) ∧ Below w.heap.size w w' := by
  obtain ⟨t, fz, h1⟩ := hG.tab
  refine (Any.strconv_FormatInt_10 Tryz.laysM173 (n : Int) (by omega) (by omega) w (var_of (g := 1) (by kernel_rfl) h1)).mono ?_
  rintro e w' ⟨rfl, k, os, rfl⟩
  exact ⟨by rw [Lib.itoa_nonneg]; rfl, below_grow w os k⟩
theorem nDigits_le {n : Nat} (hn : n ≤ 9999999999) : Lib.nDigits n ≤ 10 := by
  rcases Nat.lt_or_ge 10 (Lib.nDigits n) with h | h
  · exfalso
    have key : ∀ (k u : Nat), u < 10 ^ (k + 1) → Lib.nDigits u ≤ k + 1 := by
      intro k
      induction k with
      | zero => intro u hu; rw [Lib.nDigits_small (by simpa using hu)]; exact Nat.le_refl _
      | succ k ih =>
        intro u hu
        by_cases h10 : u < 10
        · rw [Lib.nDigits_small h10]; omega
        · rw [Lib.nDigits_big h10]
          have := ih (u / 10) (by rw [Nat.pow_succ] at hu; omega)
          omega
    have := key 9 n (by simp only [Nat.reduceAdd, Nat.reducePow]; omega)
    omega
  · exact h
theorem repeatL_zero (k : Nat) : Lib.repeatL [48] k = List.replicate k 48 := by
  induction k with
  | zero => rfl
  | succ k ih => rw [Lib.repeatL, ih, List.replicate_succ]; rfl
theorem digs_eq {n : Nat} (hn : n ≤ 9999999999) : Lib.repeatL [48] (10 - Lib.nDigits n) ++ Lib.decDigits n = PWal.digs n := by
  have hd := nDigits_le hn
  have hlt := Lib.lt_pow_nDigits n
  generalize hk : Lib.nDigits n = k at *
  rw [Lib.decDigits_eq, hk, repeatL_zero]
  unfold PWal.digs
  apply List.ext_getElem?
  intro i
  by_cases hi : i < 10 - k
  · rw [List.getElem?_append_left (by simpa using hi), List.getElem?_replicate, if_pos hi, List.getElem?_map, List.getElem?_range (by omega)]
    simp only [Option.map_some, Option.some.injEq]
    unfold Lib.dg
    have : n / 10 ^ (9 - i) = 0 := Nat.div_eq_of_lt (Nat.lt_of_lt_of_le hlt (Nat.pow_le_pow_right (by decide) (by omega)))
    rw [this]; rfl
  · rw [List.getElem?_append_right (by simpa using Nat.le_of_not_lt hi), List.length_replicate, List.getElem?_map, List.getElem?_map]
    by_cases h10 : i < 10
    · rw [List.getElem?_range (by omega), List.getElem?_range (by omega)]
      simp only [Option.map_some, Option.some.injEq]
      congr 1; omega
    · rw [List.getElem?_eq_none (by simp; omega), List.getElem?_eq_none (by simp; omega)]; rfl
theorem segName_any (n : Nat) (w : World) (hn : n ≤ 9999999999) (hG : Glob w) : Calls Tryz.prog 69 #[.int .i64 (n : Nat)] w fun e w' => e = .returned (.string (str (PWal.segN n))) ∧ Below w.heap.size w w' := by
  have hd := nDigits_le hn
  have hp := Lib.nDigits_pos n
  have hl := Lib.decDigits_length n
  have he := digs_eq hn
  obtain ⟨k, hk⟩ : ∃ k, k = Lib.nDigits n := ⟨_, rfl⟩
  rw [← hk] at hd hp hl he
  obtain ⟨m, hm⟩ : ∃ m : Nat, m + k = 10 := ⟨10 - k, by omega⟩
  have hsz : (str (Lib.decDigits n)).size = k := by rw [str_size, hl]
  have hr : (str (Lib.repeatL [48] m)).size = m := by rw [str_size, repeatL_zero, List.length_replicate]
  have hcat : (⟨#[115]⟩ ++ str (Lib.repeatL [48] m)) ++ str (Lib.decDigits n) = str (PWal.segN n) := by
    rw [show (⟨#[115]⟩ : ByteArray) = str [115] from rfl, str_append, str_append]
    congr 1
    rw [show 10 - k = m by omega] at he
    show [115] ++ Lib.repeatL [48] m ++ Lib.decDigits n = 115 :: PWal.digs n
    rw [← he]; rfl
  have HF := Lib.hid (fmt_any n w hn hG)
  have HR := Lib.hid (fun W => (show Calls Tryz.prog 122 #[.string ⟨#[48]⟩, .int .i64 (m : Nat)] W fun e w' => e = .returned (.string (str (Lib.repeatL [48] m))) ∧ Below W.heap.size W w' from Any.strings_Repeat Tryz.lays105 Tryz.Builder_Extra_105 ⟨#[48]⟩ m W (by omega) (by show 1 * m ≤ _; omega)))
  generalize str (Lib.decDigits n) = sd at *
  generalize str (Lib.repeatL [48] m) = sr at *
  generalize str (PWal.segN n) = sn at *
  have HC := Lib.hid hcat
  have hi : (10 : Int) - (k : Int) = (m : Int) := by omega
  clear he hl hcat hk
  go_enter Tryz.func69, Tryz.ntmps69
  go_wp2_with fail
  refine HF.out.mono ?_
  rintro e w1 ⟨rfl, b1⟩
  go_wp2_with fail
  refine (HR.out w1).mono ?_
  rintro e w2 ⟨rfl, b2⟩
  go_wp2_with fail
  go_ret
  exact ⟨by rw [HC.out]; rfl, b1.trans (b2.mono b1.size)⟩

/-! ### a name's segment -/
theorem isDig_iff (c : UInt8) : PWal.isDig c = true ↔ 48 ≤ c.toNat ∧ c.toNat ≤ 57 := by unfold PWal.isDig; simp
def noNum : Lib.NumEnd Nat := Lib.parseUintB 64 []
theorem parseM (l : List UInt8) : ∀ acc : Nat, acc * 10 ^ l.length + 10 ^ l.length ≤ 100000000000000000 →
    Lib.parseUintM (2 ^ 64 - 1) acc l = if l.all PWal.isDig = true then .ok (l.foldl (fun n c => n * 10 + (c.toNat - 48)) acc) else noNum := by
  induction l with
  | nil => intro acc h; rfl
  | cons c r ih =>
    intro acc h
    rw [Lib.parseUintM]
    have hp : 1 ≤ 10 ^ r.length := Nat.one_le_pow _ _ (by decide)
    rw [List.length_cons, Nat.pow_succ] at h
    have hb : acc * 10 ^ r.length * 10 + 10 ^ r.length * 10 ≤ 100000000000000000 := by rw [Nat.mul_assoc]; exact h
    have ha : acc ≤ acc * 10 ^ r.length := Nat.le_mul_of_pos_right _ hp
    by_cases hc : 48 ≤ c.toNat ∧ c.toNat ≤ 57
    · rw [if_pos hc, if_neg (by omega), if_neg (by omega)]
      have hx : (acc * 10 + (c.toNat - 48)) * 10 ^ r.length + 10 ^ r.length ≤ 100000000000000000 := by
        have h2 : (acc * 10 + (c.toNat - 48)) * 10 ^ r.length ≤ (acc * 10 + 9) * 10 ^ r.length := Nat.mul_le_mul_right _ (by omega)
        have h3 : (acc * 10 + 9) * 10 ^ r.length = acc * 10 ^ r.length * 10 + 9 * 10 ^ r.length := by rw [Nat.add_mul, Nat.mul_right_comm]
        omega
      rw [ih _ hx]
      simp only [List.all_cons, List.foldl_cons, (isDig_iff c).2 hc, Bool.true_and]
    · rw [if_neg hc]
      have : PWal.isDig c = false := by
        cases q : PWal.isDig c with
        | false => rfl
        | true => exact absurd ((isDig_iff c).1 q) hc
      simp only [List.all_cons, this, Bool.false_and]
      rw [if_neg (by simp)]
      rfl
theorem parse10 {l : List UInt8} (h : l.length = 10) : Lib.parseUintB 64 l = if l.all PWal.isDig = true then .ok (PWal.numD l) else noNum := by
  unfold Lib.parseUintB
  rw [if_neg (by intro e; rw [e] at h; cases h), parseM l 0 (by rw [h]; decide)]
  rfl
theorem numD_lt {l : List UInt8} (hd : l.all PWal.isDig = true) : PWal.numD l < 10 ^ l.length := by
  have key : ∀ (l : List UInt8) (acc : Nat), l.all PWal.isDig = true → l.foldl (fun n c => n * 10 + (c.toNat - 48)) acc < (acc + 1) * 10 ^ l.length := by
    intro l
    induction l with
    | nil => intro acc _; simp
    | cons c r ih =>
      intro acc h
      simp only [List.all_cons, Bool.and_eq_true] at h
      rw [List.foldl_cons, List.length_cons, Nat.pow_succ, ← Nat.mul_assoc, Nat.mul_right_comm]
      refine Nat.lt_of_lt_of_le (ih _ h.2) (Nat.mul_le_mul_right _ ?_)
      have := (isDig_iff c).1 h.1
      omega
  have := key l 0 hd
  simpa [PWal.numD] using this
theorem segNo_lt (nm : List UInt8) : PWal.segNo nm < 10000000000 := by
  unfold PWal.segNo
  split
  · rename_i h
    have := numD_lt h.2.2
    rw [h.2.1] at this
    exact this
  · omega
def SegOf (nm : List UInt8) (w : World) (e : Ending) (w' : World) : Prop := e = .returned (.tuple #[.int .i64 (PWal.segNo nm : Nat), .bool (decide (0 < PWal.segNo nm))]) ∧ Below w.heap.size w w'
theorem cut_yes (ds : List UInt8) (W : World) : Calls Tryz.prog 153 #[.string (str (115 :: ds)), .string ⟨#[115]⟩] W fun e w' => e = .returned (.tuple #[.string (str ds), .bool true]) ∧ W = w' := by
  refine (Tryz.strings_CutPrefix (str (115 :: ds)) ⟨#[115]⟩ W).mono ?_
  rintro e w' ⟨rfl, rfl⟩
  rw [str_data]
  have h : Lib.hasPrefix (115 :: ds) [115] = true := by simp [Lib.hasPrefix]
  have h2 : Lib.trimPrefix (115 :: ds) [115] = ds := by unfold Lib.trimPrefix; rw [if_pos h]; rfl
  exact ⟨by show Ending.returned (.tuple #[.string ⟨(Lib.trimPrefix (115 :: ds) [115]).toArray⟩, .bool (Lib.hasPrefix (115 :: ds) [115])]) = _; rw [h, h2]; rfl, rfl⟩
theorem cut_no (nm : List UInt8) (hh : nm.head? ≠ some 115) (W : World) : Calls Tryz.prog 153 #[.string (str nm), .string ⟨#[115]⟩] W fun e w' => e = .returned (.tuple #[.string (str nm), .bool false]) ∧ W = w' := by
  refine (Tryz.strings_CutPrefix (str nm) ⟨#[115]⟩ W).mono ?_
  rintro e w' ⟨rfl, rfl⟩
  rw [str_data]
  have h : Lib.hasPrefix nm [115] = false := by
    cases nm with
    | nil => rfl
    | cons x r =>
      simp only [List.head?_cons, ne_eq, Option.some.injEq] at hh
      show ((115 : UInt8) == x && _) = false
      rw [beq_eq_false_iff_ne.2 (Ne.symm hh)]; rfl
  have h2 : Lib.trimPrefix nm [115] = nm := by unfold Lib.trimPrefix; rw [if_neg (by rw [h]; simp)]
  exact ⟨by show Ending.returned (.tuple #[.string ⟨(Lib.trimPrefix nm [115]).toArray⟩, .bool (Lib.hasPrefix nm [115])]) = _; rw [h, h2]; rfl, rfl⟩
theorem segNo_zero {nm : List UInt8} (h : ¬ (nm.head? = some 115 ∧ nm.tail.length = 10 ∧ nm.tail.all PWal.isDig = true)) : PWal.segNo nm = 0 := by unfold PWal.segNo; rw [if_neg h]
theorem segOf_any (nm : List UInt8) (w : World) (hG : Glob w) : Calls Tryz.prog 120 #[.string (str nm)] w (SegOf nm w) := by
  by_cases hh : nm.head? = some 115
  · obtain ⟨ds, rfl⟩ : ∃ ds, nm = 115 :: ds := by
      cases nm with
      | nil => cases hh
      | cons x r => simp only [List.head?_cons, Option.some.injEq] at hh; exact ⟨r, by rw [hh]⟩
    have HC := Lib.hid (cut_yes ds w)
    by_cases hl : ds.length = 10
    · have hsz : (str ds).size = 10 := by rw [str_size, hl]
      by_cases hd : ds.all PWal.isDig = true
      · have hv : PWal.segNo (115 :: ds) = PWal.numD ds := by unfold PWal.segNo; rw [if_pos ⟨rfl, hl, hd⟩]; rfl
        have hp := parse10 hl
        rw [if_pos hd] at hp
        have hlt := numD_lt hd
        rw [hl] at hlt
        unfold SegOf
        rw [hv]
        clear hv hd
        generalize PWal.numD ds = u at *
        have HP := Lib.hid (Tryz.strconv_ParseUint_10_at64_ok (str ds) (by rw [hsz]; omega) u (by rw [str_data]; exact hp) w)
        have hu : (u : Int) ≤ 9999999999 := by simp only [Nat.reducePow] at hlt; omega
        clear hp hl hh
        generalize str (115 :: ds) = s0 at *
        generalize str ds = s1 at *
        have h0 : 0 ≤ (u : Int) := by omega
        go_enter Tryz.func120, Tryz.ntmps120
        go_wp2_with fail
        refine HC.out.mono ?_
        rintro e w1 ⟨rfl, rfl⟩
        go_wp2_with fail
        refine HP.out.mono ?_
        rintro e w1 ⟨rfl, hw⟩
        have HB : Hid (Below w.heap.size w w1) := Lib.hid (by
          rcases hw with rfl | rfl
          · exact Below.refl _ _
          · exact Lib.bytesWorld_below _ _ _)
        clear hw
        go_wp2_with fail
        go_ret2
        exact ⟨rfl, HB.out⟩
      · have hv := segNo_zero (nm := 115 :: ds) (by rintro ⟨_, _, q⟩; exact hd q)
        have hp := parse10 hl
        rw [if_neg hd] at hp
        unfold SegOf
        rw [hv]
        obtain ⟨tp, pv, t, fz, h2⟩ := hG.syn
        have HP := Lib.hid (Any.strconv_ParseUint_10_at64_syntax_var Tryz.laysPu14 (str ds) (by rw [hsz]; omega) (by rw [str_data]; exact hp) tp pv w (var_of (g := 2) (by kernel_rfl) h2))
        clear hp hl hd hh hv h2
        generalize str (115 :: ds) = s0 at *
        generalize str ds = s1 at *
        go_enter Tryz.func120, Tryz.ntmps120
        go_wp2_with fail
        refine HC.out.mono ?_
        rintro e w1 ⟨rfl, rfl⟩
        go_wp2_with fail
        refine HP.out.mono ?_
        rintro e w1 ⟨M, rfl, hM, _, hb⟩
        go_wp2_with fail
        go_ret2
        exact ⟨rfl, hb⟩
    · have hv := segNo_zero (nm := 115 :: ds) (by rintro ⟨_, q, _⟩; exact hl q)
      have hsz : ¬ (str ds).size = 10 := by rw [str_size]; exact hl
      unfold SegOf
      rw [hv]
      clear hv hl hh
      generalize str (115 :: ds) = s0 at *
      generalize str ds = s1 at *
      go_enter Tryz.func120, Tryz.ntmps120
      go_wp2_with fail
      refine HC.out.mono ?_
      rintro e w1 ⟨rfl, rfl⟩
      go_wp2_with fail
      go_ret2
      exact ⟨rfl, Below.refl _ _⟩
  · have hv := segNo_zero (nm := nm) (by rintro ⟨q, _, _⟩; exact hh q)
    have HC := Lib.hid (cut_no nm hh w)
    unfold SegOf
    rw [hv]
    clear hv hh
    generalize str nm = s0 at *
    go_enter Tryz.func120, Tryz.ntmps120
    go_wp2_with fail
    refine HC.out.mono ?_
    rintro e w1 ⟨rfl, rfl⟩
    go_wp2_with fail
    go_ret2
    exact ⟨rfl, Below.refl _ _⟩
end Go.Proofs.YtjcikhacekmcfaaGreatDoor
