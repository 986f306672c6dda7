import Derived.Test.YtebacdegjmcnlaaGreatLeaf
import Derived.Lib.AppendStr
import Derived.LoopTactic
import Derived.Lib.Hide
import Derived.StillTailTactics
namespace Go.Proofs.YtebacdegjmcnlaaGreat
open Go.RowKit
set_option linter.unusedVariables false
/-- bytes as cells -/
def vB (l : List UInt8) : List Value := l.map fun b => .int .u8 (b.toNat : Int)
theorem vB_length (l : List UInt8) : (vB l).length = l.length := by simp [vB]
theorem vB_append (a b : List UInt8) : vB (a ++ b) = vB a ++ vB b := by simp [vB]
theorem vB_one (a : UInt8) : vB [a] = [.int .u8 (a.toNat : Int)] := rfl
theorem vB_oneCell (l : List UInt8) : ∀ u ∈ vB l, u.oneCell' = true := by
  intro u hu; simp only [vB, List.mem_map] at hu; obtain ⟨b, _, rfl⟩ := hu; rfl
theorem info5 : (Tryz.prog.info? 5).map (fun i => (i.zero, i.size, i.bytes)) = some (some (.int .u8 0), 1, 1) := by kernel_rfl
def OwnB (w : World) (base : Nat) (v : Value) (l : List UInt8) : Prop := w.ownsRow base 5 1 v l.length (vB l)
theorem OwnB.below {w w' : World} {base : Nat} {v : Value} {l : List UInt8} (h : OwnB w base v l) (hb : Below w.heap.size w w') : OwnB w' base v l := by
  refine ⟨h.1, ?_⟩
  rcases h.2 with hn | ⟨g, cap, cur, rfl, hg, hgg, r⟩
  · exact .inl hn
  · exact .inr ⟨g, cap, cur, rfl, hg, by rw [hb.block g (Array.getElem?_eq_some_iff.1 hgg).1]; exact hgg, r⟩
/-- append of one byte, that stands in a cell -/
theorem wp_app1 {ops : Array Oper} {rest : List Oper} {o : Oper} {a : Act} {Q : Exit → Act → World → Prop} {w : World} (hgd : o.guard = none) (s x : Operand)
    (ho : o.op = .call { callee := .builtin .append, args := #[s, x], argTypes := #[58, 58] })
    (base : Nat) (v : Value) (l : List UInt8) (hs : a.eval s = v) (hown : OwnB w base v l) (ad : Addr) (c : Nat) (hx : a.eval x = .slice (some ad) 1 c)
    (q : Int) (hcell : w.cell? ad = some (.int .u8 q)) (hq : 0 ≤ q ∧ q < 256) (hlen : l.length ≤ 70368744177664) (hbase : base ≤ w.heap.size)
    (h : ∀ v' w', OwnB w' base v' (l ++ [UInt8.ofNat q.toNat]) → Below base w w' → wpList Tryz.prog ops Q rest (a.put o.dst v') w') : wpList Tryz.prog ops Q (o :: rest) a w := by
  obtain ⟨i5, hi5, hz0, hz1, hz2⟩ := info_parts info5
  refine wpList_append_own w hgd s x 58 ho base 5 i5 _ 1 1 Tryz.underlying58 hi5 hz0 hz1 hz2 rfl (by omega) v l.length (vB l) hs hown ad 1 c [.int .u8 q] hx rfl ?_ ?_ (by simp only [maxLen]; omega) (by omega) hbase ?_
  · intro j u hu
    match j, hu with
    | 0, hu =>
      simp only [List.getElem?_cons_zero, Option.some.injEq] at hu
      subst hu
      simpa [Addr.add] using hcell
    | j + 1, hu => simp at hu
  · intro u hu
    simp only [List.mem_singleton] at hu
    subst hu
    rfl
  · intro v' w' h2 h3 _
    have e : [Value.int .u8 q] = vB [UInt8.ofNat q.toNat] := by
      have : ((UInt8.ofNat q.toNat).toNat : Int) = q := by
        rw [UInt8.toNat_ofNat']; omega
      rw [vB_one, this]
    refine h v' w' ?_ ((Below.refl _ _).grown h3 hbase fun k hk => (hown.lt k hk).1)
    unfold OwnB
    rw [vB_append, ← e, List.length_append]
    exact h2
def AppPost (base : Nat) (r : List UInt8) (w : World) (e : Ending) (w' : World) : Prop := ∃ v', e = .returned v' ∧ OwnB w' base v' r ∧ Below base w w'
set_option maxRecDepth 20000 in
theorem appendCount_any (base : Nat) (v : Value) (l : List UInt8) (c : Int) (w : World) (hown : OwnB w base v l) (hn : l.length ≤ 1099511627776) (hb : base ≤ w.heap.size) (h0 : 0 ≤ c) (h1 : c ≤ 18446744073709551615) :
    Calls Tryz.prog 75 #[v, .int .u64 c] w (AppPost base (l ++ Pl.cntB c.toNat) w) := by
  have hd := Pl.dgs_le c.toNat
  go_enter Tryz.func75, Tryz.ntmps75
  go_wp2_with (first
    | (go_at_call 101; refine (digits_any _ _ (by omega) (by omega)).mono ?_; rintro e w' ⟨rfl, rfl⟩)
    | (at_builtin; (refine wp_app1 rfl (.tmp 9) (.tmp 12) rfl base v l rfl (hown.below ((Below.refl _ _).alloc (Nat.le_refl _) _)) _ _ rfl _ (by simp [go_sem]; rfl) ⟨by omega, by omega⟩ (by omega) (by simp; omega) ?_); intro v1 w1 hown1 hb1))
  have hw1 : Below base w w1 := ((Below.refl _ _).alloc (by omega) _).trans hb1
  have hs1 := hw1.size
  have Hb := Lib.hid hb1
  clear hb1
  go_loopw [0, 6] (fun u i wr => ∃ j : Nat, j ≤ Pl.dgs c.toNat ∧ i = .int .i64 ((Pl.dgs c.toNat : Int) - 1 - j) ∧ OwnB wr base u (l ++ UInt8.ofNat (Pl.dgs c.toNat) :: (Pl.be (Pl.dgs c.toNat) c.toNat).take j) ∧ Below base w wr)
    (fun _ i _ => (intOf i + 1).toNat)
  case atStart => exact ⟨0, by omega, by simp, by simpa using hown1, hw1⟩
  case round =>
    obtain ⟨j, hj, rfl, hownr, hbr⟩ := hrel
    have hbs := hbr.size
    by_cases hlt : j < Pl.dgs c.toNat
    · go_wp2_with (at_builtin; (refine wp_app1 rfl (.tmp 20) (.tmp 26) rfl base _ _ rfl (hownr.below ((Below.refl _ _).alloc (Nat.le_refl _) _)) _ _ rfl _ (by simp [go_sem]; rfl) ⟨by omega, by omega⟩ (by simp; omega) (by simp; omega) ?_); intro v2 w2 hown2 hb2)
      go_roundw
      case rel =>
        refine ⟨j + 1, by omega, by go_num, ?_, hbr.trans (((Below.refl _ _).alloc (by omega) _).trans hb2)⟩
        rw [Pl.be_take_succ _ _ _ hlt, ← Pl.shift_byte c h0]
        simpa using hown2
      case measure => simp [intOf]; omega
    · go_wp2
      go_ret
      have ej : j = Pl.dgs c.toNat := by omega
      subst ej
      refine ⟨_, rfl, ?_, hbr⟩
      rw [List.take_of_length_le (by rw [Pl.be_length]; omega)] at hownr
      exact hownr
end Go.Proofs.YtebacdegjmcnlaaGreat
namespace Go.Proofs.YtebacdegjmcnlaaGreat
open Go.RowKit
set_option linter.unusedVariables false
def mean (k n : Int) (s : ByteArray) (m : Nat) (sl : Value) : Value :=
  if k = 1 ∧ s.size = 0 ∧ m = 0 then .iface 2 (.int .i64 n) else if k = 2 ∧ n = 0 ∧ m = 0 then .iface 9 (.string s)
  else if k = 3 ∧ n = 0 ∧ s.size = 0 then .iface 48 sl else .nilIface
def RetBelow (v : Value) (w : World) (e : Ending) (w' : World) : Prop := e = .returned v ∧ Below w.heap.size w w'
theorem size_toList (s : ByteArray) : s.size = s.toList.length := by rw [ByteArray.toList_eq]; simp only [Array.length_toList]; rfl
theorem empty_of_size {s : ByteArray} (h : s.size = 0) : s.toList = [] := List.eq_nil_of_length_eq_zero (by rw [← size_toList]; exact h)
theorem isEmpty_of_size {s : ByteArray} (h : ¬ s.size = 0) : s.toList.isEmpty = false := by
  cases hs : s.toList with
  | nil => exact absurd (by rw [size_toList, hs]; rfl) h
  | cons x r => rfl
set_option maxRecDepth 20000 in
theorem meaning_1 (n : Int) (s : ByteArray) (a : Option Addr) (m c : Nat) (w : World) (hs : s.toList = []) :
    Calls Tryz.prog 74 #[.agg #[.int .i64 1, .int .i64 n, .string s, .slice a 0 c]] w (RetBelow (.iface 2 (.int .i64 n)) w) := by
  have hs' : (!s.toList.isEmpty) = false := by simp [hs]
  go_enter Tryz.func74, Tryz.ntmps74
  go_wp2_with fail
  go_ret
  exact ⟨rfl, (Below.refl _ _).alloc (Nat.le_refl _) _⟩
set_option maxRecDepth 20000 in
theorem meaning_1s (n : Int) (s : ByteArray) (a : Option Addr) (m c : Nat) (w : World) (hs : s.toList.isEmpty = false) :
    Calls Tryz.prog 74 #[.agg #[.int .i64 1, .int .i64 n, .string s, .slice a m c]] w (RetBelow (.nilIface) w) := by
  go_enter Tryz.func74, Tryz.ntmps74
  go_wp2_with fail
  go_ret
  exact ⟨rfl, (Below.refl _ _).alloc (Nat.le_refl _) _⟩
set_option maxRecDepth 20000 in
theorem meaning_1m (n : Int) (s : ByteArray) (a : Option Addr) (m c : Nat) (w : World) (hs : s.toList = []) (hm : ((m : Int) == 0) = false) :
    Calls Tryz.prog 74 #[.agg #[.int .i64 1, .int .i64 n, .string s, .slice a m c]] w (RetBelow (.nilIface) w) := by
  have hs' : (!s.toList.isEmpty) = false := by simp [hs]
  go_enter Tryz.func74, Tryz.ntmps74
  go_wp2_with fail
  go_ret
  exact ⟨rfl, (Below.refl _ _).alloc (Nat.le_refl _) _⟩
set_option maxRecDepth 20000 in
theorem meaning_2 (n : Int) (s : ByteArray) (a : Option Addr) (m c : Nat) (w : World) (hn : (n == 0) = true) :
    Calls Tryz.prog 74 #[.agg #[.int .i64 2, .int .i64 n, .string s, .slice a 0 c]] w (RetBelow (.iface 9 (.string s)) w) := by
  obtain rfl : n = 0 := by simpa using hn
  clear hn
  go_enter Tryz.func74, Tryz.ntmps74
  go_wp2_with fail
  go_ret
  exact ⟨rfl, (Below.refl _ _).alloc (Nat.le_refl _) _⟩
set_option maxRecDepth 20000 in
theorem meaning_2n (n : Int) (s : ByteArray) (a : Option Addr) (m c : Nat) (w : World) (hn : (n == 0) = false) :
    Calls Tryz.prog 74 #[.agg #[.int .i64 2, .int .i64 n, .string s, .slice a m c]] w (RetBelow (.nilIface) w) := by
  go_enter Tryz.func74, Tryz.ntmps74
  go_wp2_with fail
  go_ret
  exact ⟨rfl, (Below.refl _ _).alloc (Nat.le_refl _) _⟩
set_option maxRecDepth 20000 in
theorem meaning_2m (n : Int) (s : ByteArray) (a : Option Addr) (m c : Nat) (w : World) (hn : (n == 0) = true) (hm : ((m : Int) == 0) = false) :
    Calls Tryz.prog 74 #[.agg #[.int .i64 2, .int .i64 n, .string s, .slice a m c]] w (RetBelow (.nilIface) w) := by
  obtain rfl : n = 0 := by simpa using hn
  clear hn
  go_enter Tryz.func74, Tryz.ntmps74
  go_wp2_with fail
  go_ret
  exact ⟨rfl, (Below.refl _ _).alloc (Nat.le_refl _) _⟩
set_option maxRecDepth 20000 in
theorem meaning_3 (n : Int) (s : ByteArray) (a : Option Addr) (m c : Nat) (w : World) (hn : (n == 0) = true) (hs : s.toList = []) :
    Calls Tryz.prog 74 #[.agg #[.int .i64 3, .int .i64 n, .string s, .slice a m c]] w (RetBelow (.iface 48 (.slice a m c)) w) := by
  obtain rfl : n = 0 := by simpa using hn
  clear hn
  have hs' : (!s.toList.isEmpty) = false := by simp [hs]
  go_enter Tryz.func74, Tryz.ntmps74
  go_wp2_with fail
  go_ret
  exact ⟨rfl, (Below.refl _ _).alloc (Nat.le_refl _) _⟩
set_option maxRecDepth 20000 in
theorem meaning_3n (n : Int) (s : ByteArray) (a : Option Addr) (m c : Nat) (w : World) (hn : (n == 0) = false) :
    Calls Tryz.prog 74 #[.agg #[.int .i64 3, .int .i64 n, .string s, .slice a m c]] w (RetBelow (.nilIface) w) := by
  go_enter Tryz.func74, Tryz.ntmps74
  go_wp2_with fail
  go_ret
  exact ⟨rfl, (Below.refl _ _).alloc (Nat.le_refl _) _⟩
set_option maxRecDepth 20000 in
theorem meaning_3s (n : Int) (s : ByteArray) (a : Option Addr) (m c : Nat) (w : World) (hn : (n == 0) = true) (hs : s.toList.isEmpty = false) :
    Calls Tryz.prog 74 #[.agg #[.int .i64 3, .int .i64 n, .string s, .slice a m c]] w (RetBelow (.nilIface) w) := by
  obtain rfl : n = 0 := by simpa using hn
  clear hn
  go_enter Tryz.func74, Tryz.ntmps74
  go_wp2_with fail
  go_ret
  exact ⟨rfl, (Below.refl _ _).alloc (Nat.le_refl _) _⟩
set_option maxRecDepth 20000 in
theorem meaning_0 (k n : Int) (s : ByteArray) (a : Option Addr) (m c : Nat) (w : World) (h1 : (k == 1) = false) (h2 : (k == 2) = false) (h3 : (k == 3) = false) :
    Calls Tryz.prog 74 #[.agg #[.int .i64 k, .int .i64 n, .string s, .slice a m c]] w (RetBelow (.nilIface) w) := by
  go_enter Tryz.func74, Tryz.ntmps74
  go_wp2_with fail
  go_ret
  exact ⟨rfl, (Below.refl _ _).alloc (Nat.le_refl _) _⟩
theorem meaning_any (k n : Int) (s : ByteArray) (a : Option Addr) (m c : Nat) (w : World) :
    Calls Tryz.prog 74 #[.agg #[.int .i64 k, .int .i64 n, .string s, .slice a m c]] w (RetBelow (mean k n s m (.slice a m c)) w) := by
  by_cases h1 : k = 1
  · subst h1
    by_cases hs : s.size = 0
    · by_cases hm : m = 0
      · subst hm; rw [mean, if_pos ⟨rfl, hs, rfl⟩]; exact meaning_1 n s a 0 c w (empty_of_size hs)
      · rw [mean, if_neg (by simp [hm]), if_neg (by simp), if_neg (by simp)]
        exact meaning_1m n s a m c w (empty_of_size hs) (by simp; omega)
    · rw [mean, if_neg (by simp [hs]), if_neg (by simp), if_neg (by simp)]
      exact meaning_1s n s a m c w (isEmpty_of_size hs)
  by_cases h2 : k = 2
  · subst h2
    rw [mean, if_neg (by simp)]
    by_cases hn : n = 0
    · by_cases hm : m = 0
      · subst hm; rw [if_pos ⟨rfl, hn, rfl⟩]; exact meaning_2 n s a 0 c w (by simpa using hn)
      · rw [if_neg (by simp [hm]), if_neg (by simp)]; exact meaning_2m n s a m c w (by simpa using hn) (by simp; omega)
    · rw [if_neg (by simp [hn]), if_neg (by simp)]; exact meaning_2n n s a m c w (by simpa using hn)
  by_cases h3 : k = 3
  · subst h3
    rw [mean, if_neg (by simp), if_neg (by simp)]
    by_cases hn : n = 0
    · by_cases hs : s.size = 0
      · rw [if_pos ⟨rfl, hn, hs⟩]; exact meaning_3 n s a m c w (by simpa using hn) (empty_of_size hs)
      · rw [if_neg (by simp [hs])]; exact meaning_3s n s a m c w (by simpa using hn) (isEmpty_of_size hs)
    · rw [if_neg (by simp [hn])]; exact meaning_3n n s a m c w (by simpa using hn)
  rw [mean, if_neg (by simp [h1]), if_neg (by simp [h2]), if_neg (by simp [h3])]
  exact meaning_0 k n s a m c w (by simpa using h1) (by simpa using h2) (by simpa using h3)
end Go.Proofs.YtebacdegjmcnlaaGreat
namespace Go.Proofs.YtebacdegjmcnlaaGreat
open Go.RowKit
set_option linter.unusedVariables false
def Tal (w : World) (g : Nat) (i b : Int) (d : Bool) : Prop := w.heap[g]? = some (.cells #[.int .i64 i, .int .i64 b, .bool d] 103 (0, 0))
theorem Tal.c0 {w : World} {g : Nat} {i b : Int} {d : Bool} (h : Tal w g i b d) : w.cell? ⟨g, 0, none⟩ = some (.int .i64 i) := cell_of_row w g 0 _ _ _ h
theorem Tal.c1 {w : World} {g : Nat} {i b : Int} {d : Bool} (h : Tal w g i b d) : w.cell? ⟨g, 1, none⟩ = some (.int .i64 b) := cell_of_row w g 1 _ _ _ h
theorem Tal.c2 {w : World} {g : Nat} {i b : Int} {d : Bool} (h : Tal w g i b d) : w.cell? ⟨g, 2, none⟩ = some (.bool d) := cell_of_row w g 2 _ _ _ h
theorem Tal.fr {w : World} {g : Nat} {i b : Int} {d : Bool} (h : Tal w g i b d) (k : Nat) : w.frozen? ⟨g, k, none⟩ = false := by
  unfold Tal at h; simp [World.frozen?, h]
theorem heap_set (w : World) (g k : Nat) (v : Value) (cs : Array Value) (t : TypeId) (h : w.heap[g]? = some (.cells cs t (0, 0))) :
    (w.setCell ⟨g, k, none⟩ v).heap[g]? = some (.cells (cs.setIfInBounds k v) t (0, 0)) := by
  simp [World.setCell, Array.getElem?_modify, h]
theorem grownBy_set (w : World) (g k : Nat) (v : Value) : w.grownBy (w.setCell ⟨g, k, none⟩ v) (some g) :=
  ⟨rfl, rfl, rfl, by simp [World.setCell], fun j _ hne => Below.heap_setCell w _ v j (fun e => hne (by rw [e]))⟩
theorem grownBy_drew {w w' : World} {r : Option Nat} (h : w.grownBy w' r) : w.grownBy w'.drew r := ⟨h.os, h.tape, h.output, h.size, h.block⟩
theorem grownBy_trans {a b c : World} {r : Option Nat} (h : a.grownBy b r) (k : b.grownBy c r) : a.grownBy c r :=
  ⟨k.os.trans h.os, k.tape.trans h.tape, k.output.trans h.output, Nat.le_trans h.size k.size, fun i hi hne => (k.block i (Nat.lt_of_lt_of_le hi h.size) hne).trans (h.block i hi hne)⟩
theorem grownBy_below {a b : World} (h : Below a.heap.size a b) (r : Option Nat) : a.grownBy b r := ⟨h.os, h.tape, h.output, h.size, fun i hi _ => h.block i hi⟩
theorem Tal.set0 {w : World} {g : Nat} {i b : Int} {d : Bool} (h : Tal w g i b d) (i' : Int) : Tal (w.setCell ⟨g, 0, none⟩ (.int .i64 i')) g i' b d := heap_set w g 0 _ _ _ h
theorem Tal.set1 {w : World} {g : Nat} {i b : Int} {d : Bool} (h : Tal w g i b d) (b' : Int) : Tal (w.setCell ⟨g, 1, none⟩ (.int .i64 b')) g i b' d := heap_set w g 1 _ _ _ h
theorem Tal.set2 {w : World} {g : Nat} {i b : Int} {d : Bool} (h : Tal w g i b d) (d' : Bool) : Tal (w.setCell ⟨g, 2, none⟩ (.bool d')) g i b d' := heap_set w g 2 _ _ _ h
def WeighPost (g : Nat) (i b : Int) (d : Bool) (w : World) (e : Ending) (w' : World) : Prop := e = .returned (.tuple #[]) ∧ Tal w' g i b d ∧ w.grownBy w' (some g)
theorem foldN_lt' (n : Int) (h0 : -9223372036854775808 ≤ n) (h1 : n ≤ 9223372036854775807) : 0 ≤ (Pl.foldN n : Int) ∧ (Pl.foldN n : Int) ≤ 18446744073709551615 := ⟨by omega, foldN_lt n h0 h1⟩
theorem ta22 (n : Int) (w : World) : (Instr.typeAssert (.iface 2 (.int .i64 n)) 20 2 true).run Tryz.prog w = .ok (.tuple #[.int .i64 n, .bool true]) w := by kernel_rfl
theorem ta92 (s : ByteArray) (w : World) : (Instr.typeAssert (.iface 9 (.string s)) 20 2 true).run Tryz.prog w = .ok (.tuple #[.int .i64 0, .bool false]) w := by kernel_rfl
theorem ta99 (s : ByteArray) (w : World) : (Instr.typeAssert (.iface 9 (.string s)) 20 9 true).run Tryz.prog w = .ok (.tuple #[.string s, .bool true]) w := by kernel_rfl
theorem ta242 (a : Option Addr) (m c : Nat) (w : World) : (Instr.typeAssert (.iface 48 (.slice a m c)) 20 2 true).run Tryz.prog w = .ok (.tuple #[.int .i64 0, .bool false]) w := by kernel_rfl
theorem ta249 (a : Option Addr) (m c : Nat) (w : World) : (Instr.typeAssert (.iface 48 (.slice a m c)) 20 9 true).run Tryz.prog w = .ok (.tuple #[.string ⟨#[]⟩, .bool false]) w := by kernel_rfl
theorem ta2424 (a : Option Addr) (m c : Nat) (w : World) : (Instr.typeAssert (.iface 48 (.slice a m c)) 20 48 true).run Tryz.prog w = .ok (.tuple #[.slice a m c, .bool true]) w := by kernel_rfl
theorem tan2 (w : World) : (Instr.typeAssert .nilIface 20 2 true).run Tryz.prog w = .ok (.tuple #[.int .i64 0, .bool false]) w := by kernel_rfl
theorem tan9 (w : World) : (Instr.typeAssert .nilIface 20 9 true).run Tryz.prog w = .ok (.tuple #[.string ⟨#[]⟩, .bool false]) w := by kernel_rfl
theorem tan24 (w : World) : (Instr.typeAssert .nilIface 20 48 true).run Tryz.prog w = .ok (.tuple #[.slice none 0 0, .bool false]) w := by kernel_rfl
set_option maxRecDepth 20000 in
theorem weigh_num (g : Nat) (i b : Int) (d : Bool) (n : Int) (w : World) (ht : Tal w g i b d) (hb : 0 ≤ b ∧ b ≤ 1099511627776) (h0 : -9223372036854775808 ≤ n) (h1 : n ≤ 9223372036854775807) :
    Calls Tryz.prog 100 #[.pointer (some ⟨g, 0, none⟩), .iface 2 (.int .i64 n)] w (WeighPost g i (b + (1 + (1 + Pl.dgs (Pl.foldN n)))) d w) := by
  have c0 := ht.c0
  have c1 := ht.c1
  have f1 := ht.fr 1
  have hd := Pl.dgs_le (Pl.foldN n)
  have hf := foldN_lt' n h0 h1
  have hfc : ∀ W : World, Calls Tryz.prog 76 #[.int .i64 n] W (fun e w' => e = .returned (.int .u64 (Pl.foldN n)) ∧ w' = W) := fun W => (fold_any n W h0 h1).mono fun _ _ h => ⟨h.1, h.2.symm⟩
  have hcc : ∀ W : World, Calls Tryz.prog 112 #[.int .u64 (Pl.foldN n)] W (fun e w' => e = .returned (.int .i64 (1 + Pl.dgs (Pl.foldN n))) ∧ w' = W) := fun W => (countSize_any _ W hf.1 hf.2).mono fun _ _ h => ⟨by simpa using h.1, h.2.symm⟩
  have HF := Lib.hid hfc
  clear hfc
  generalize Pl.foldN n = F at *
  have HT := Lib.hid ht
  have HC := Lib.hid hcc
  clear ht hcc
  have t1 := fun W => ta22 n W
  go_enter Tryz.func100, Tryz.ntmps100
  go_wp2_with fail
  go_still_tail 11, (by kernel_rfl)
  still_call (HF.out _)
  repeat still_step
  still_call (HC.out _)
  repeat still_step
  refine wpStill_nil ?_
  change wpList _ _ _ _ _ w.drew
  go_wp2_with fail
  go_end0
  exact ⟨rfl, HT.out.set1 _, grownBy_drew (grownBy_set _ _ _ _)⟩
set_option maxRecDepth 20000 in
theorem weigh_text (g : Nat) (i b : Int) (d : Bool) (s : ByteArray) (w : World) (ht : Tal w g i b d) (hb : 0 ≤ b ∧ b ≤ 1099511627776) (hs : s.size ≤ 140737488355328) :
    Calls Tryz.prog 100 #[.pointer (some ⟨g, 0, none⟩), .iface 9 (.string s)] w (WeighPost g i (b + (1 + (1 + Pl.dgs s.size) + s.size)) d w) := by
  have c0 := ht.c0
  have c1 := ht.c1
  have f1 := ht.fr 1
  have hd := Pl.dgs_le s.size
  have hcc : ∀ W : World, Calls Tryz.prog 112 #[.int .u64 (s.size : Nat)] W (fun e w' => e = .returned (.int .i64 (1 + Pl.dgs s.size)) ∧ w' = W) := fun W => (countSize_any _ W (by omega) (by omega)).mono fun _ _ h => ⟨by simpa using h.1, h.2.symm⟩
  have HT := Lib.hid ht
  have HC := Lib.hid hcc
  clear ht hcc
  have hw : IntKind.u64.wrap (s.size : Int) = s.size := IntWalk.u64_in _ ⟨by omega, by omega⟩
  have t1 := fun W => ta92 s W
  have t2 := fun W => ta99 s W
  go_enter Tryz.func100, Tryz.ntmps100
  go_wp2_with fail
  go_still_tail 15, (by kernel_rfl)
  still_call (HC.out _)
  repeat still_step
  refine wpStill_nil ?_
  change wpList _ _ _ _ _ w.drew
  go_wp2_with fail
  go_end0
  exact ⟨rfl, HT.out.set1 _, grownBy_drew (grownBy_set _ _ _ _)⟩
set_option maxRecDepth 20000 in
theorem weigh_list (g : Nat) (i b : Int) (d : Bool) (a : Option Addr) (m c : Nat) (w : World) (ht : Tal w g i b d) (hb : 0 ≤ b ∧ b ≤ 1099511627776) (hs : m ≤ 9223372036854775807) :
    Calls Tryz.prog 100 #[.pointer (some ⟨g, 0, none⟩), .iface 48 (.slice a m c)] w (WeighPost g i (b + (1 + (1 + Pl.dgs m))) d w) := by
  have c0 := ht.c0
  have c1 := ht.c1
  have f1 := ht.fr 1
  have hd := Pl.dgs_le m
  have hcc : ∀ W : World, Calls Tryz.prog 112 #[.int .u64 (m : Nat)] W (fun e w' => e = .returned (.int .i64 (1 + Pl.dgs m)) ∧ w' = W) := fun W => (countSize_any _ W (by omega) (by omega)).mono fun _ _ h => ⟨by simpa using h.1, h.2.symm⟩
  have HT := Lib.hid ht
  have HC := Lib.hid hcc
  clear ht hcc
  have hw : IntKind.u64.wrap (m : Int) = m := IntWalk.u64_in _ ⟨by omega, by omega⟩
  have t1 := fun W => ta242 a m c W
  have t2 := fun W => ta249 a m c W
  have t3 := fun W => ta2424 a m c W
  go_enter Tryz.func100, Tryz.ntmps100
  go_wp2_with fail
  go_still_tail 12, (by kernel_rfl)
  still_call (HC.out _)
  repeat still_step
  refine wpStill_nil ?_
  change wpList _ _ _ _ _ w.drew
  go_wp2_with fail
  go_end0
  exact ⟨rfl, HT.out.set1 _, grownBy_drew (grownBy_set _ _ _ _)⟩
set_option maxRecDepth 20000 in
theorem weigh_none (g : Nat) (i b : Int) (d : Bool) (w : World) (ht : Tal w g i b d) : Calls Tryz.prog 100 #[.pointer (some ⟨g, 0, none⟩), .nilIface] w (WeighPost g i b true w) := by
  have c2 := ht.c2
  have f2 := ht.fr 2
  have HT := Lib.hid ht
  clear ht
  have t1 := fun W => tan2 W
  have t2 := fun W => tan9 W
  have t3 := fun W => tan24 W
  go_enter Tryz.func100, Tryz.ntmps100
  go_wp2_with fail
  go_end0
  exact ⟨rfl, HT.out.set2 _, grownBy_set _ _ _ _⟩
end Go.Proofs.YtebacdegjmcnlaaGreat
namespace Go.Proofs.YtebacdegjmcnlaaGreat
open Go.RowKit Pl
set_option linter.unusedVariables false
def InR (n : Int) : Prop := -9223372036854775808 ≤ n ∧ n ≤ 9223372036854775807
mutual
/-- the value v of type Item stands for the tree; what it leads to lies in blocks of S -/
def IsIt (w : World) (S : Nat → Prop) : It → Value → Prop
  | .mk k n s l, v => ∃ a c, v = .agg #[.int .i64 k, .int .i64 n, .string s, .slice a l.length c] ∧ InR k ∧ InR n ∧ s.size ≤ maxLen ∧ l.length ≤ maxLen ∧ AreIts w S l a 0
/-- the cells from place i on stand for the trees -/
def AreIts (w : World) (S : Nat → Prop) : List It → Option Addr → Nat → Prop
  | [], _, _ => True
  | x :: r, a, i => (∃ b off u0 u1 u2 u3, a = some ⟨b, off, none⟩ ∧ S b ∧ w.cell? ⟨b, off + i * 4, none⟩ = some u0 ∧ w.cell? ⟨b, off + i * 4 + 1, none⟩ = some u1 ∧
      w.cell? ⟨b, off + i * 4 + 2, none⟩ = some u2 ∧ w.cell? ⟨b, off + i * 4 + 3, none⟩ = some u3 ∧ IsIt w S x (.agg #[u0, u1, u2, u3])) ∧ AreIts w S r a (i + 1)
end
theorem AreIts.at_ {w : World} {S : Nat → Prop} {a : Option Addr} : ∀ {l : List It} {i : Nat}, AreIts w S l a i → ∀ {k : Nat} {x : It}, l[k]? = some x →
    ∃ b off u0 u1 u2 u3, a = some ⟨b, off, none⟩ ∧ S b ∧ w.cell? ⟨b, off + (i + k) * 4, none⟩ = some u0 ∧ w.cell? ⟨b, off + (i + k) * 4 + 1, none⟩ = some u1 ∧
      w.cell? ⟨b, off + (i + k) * 4 + 2, none⟩ = some u2 ∧ w.cell? ⟨b, off + (i + k) * 4 + 3, none⟩ = some u3 ∧ IsIt w S x (.agg #[u0, u1, u2, u3])
  | [], _, _, k, x, hx => by simp at hx
  | y :: r, i, h, 0, x, hx => by
    simp only [List.getElem?_cons_zero, Option.some.injEq] at hx
    subst hx
    rw [AreIts] at h
    exact h.1
  | y :: r, i, h, k + 1, x, hx => by
    rw [AreIts] at h
    have := AreIts.at_ h.2 (k := k) (x := x) (by simpa using hx)
    rwa [show i + 1 + k = i + (k + 1) from by omega] at this
theorem cell_eq {w w' : World} {S : Nat → Prop} (hk : ∀ k, S k → w'.heap[k]? = w.heap[k]?) {b o : Nat} (h : S b) : w'.cell? ⟨b, o, none⟩ = w.cell? ⟨b, o, none⟩ :=
  World.cell?_of_block (w := w) (hk b h)
mutual
theorem IsIt.keep {w w' : World} {S : Nat → Prop} (hk : ∀ k, S k → w'.heap[k]? = w.heap[k]?) : ∀ (t : It) {v : Value}, IsIt w S t v → IsIt w' S t v
  | .mk k n s l, v, h => by
    rw [IsIt] at h ⊢
    obtain ⟨a, c, h1, h2, h3, h4, h5, h6⟩ := h
    exact ⟨a, c, h1, h2, h3, h4, h5, AreIts.keep hk l h6⟩
theorem AreIts.keep {w w' : World} {S : Nat → Prop} (hk : ∀ k, S k → w'.heap[k]? = w.heap[k]?) : ∀ (l : List It) {a : Option Addr} {i : Nat}, AreIts w S l a i → AreIts w' S l a i
  | [], _, _, h => by rw [AreIts]; trivial
  | x :: r, a, i, h => by
    rw [AreIts] at h ⊢
    obtain ⟨⟨b, off, u0, u1, u2, u3, h1, h2, h3, h4, h5, h6, h7⟩, h8⟩ := h
    exact ⟨⟨b, off, u0, u1, u2, u3, h1, h2, (cell_eq hk h2).trans h3, (cell_eq hk h2).trans h4, (cell_eq hk h2).trans h5, (cell_eq hk h2).trans h6, IsIt.keep hk x h7⟩, AreIts.keep hk r h8⟩
end
mutual
theorem IsIt.mono {w : World} {S S' : Nat → Prop} (hk : ∀ k, S k → S' k) : ∀ (t : It) {v : Value}, IsIt w S t v → IsIt w S' t v
  | .mk k n s l, v, h => by
    rw [IsIt] at h ⊢
    obtain ⟨a, c, h1, h2, h3, h4, h5, h6⟩ := h
    exact ⟨a, c, h1, h2, h3, h4, h5, AreIts.mono hk l h6⟩
theorem AreIts.mono {w : World} {S S' : Nat → Prop} (hk : ∀ k, S k → S' k) : ∀ (l : List It) {a : Option Addr} {i : Nat}, AreIts w S l a i → AreIts w S' l a i
  | [], _, _, h => by rw [AreIts]; trivial
  | x :: r, a, i, h => by
    rw [AreIts] at h ⊢
    obtain ⟨⟨b, off, u0, u1, u2, u3, h1, h2, h3, h4, h5, h6, h7⟩, h8⟩ := h
    exact ⟨⟨b, off, u0, u1, u2, u3, h1, hk _ h2, h3, h4, h5, h6, IsIt.mono hk x h7⟩, AreIts.mono hk r h8⟩
end
theorem IsIt.below {w w' : World} {B : Nat} {t : It} {v : Value} (h : IsIt w (· < B) t v) (hb : Below B w w') : IsIt w' (· < B) t v := IsIt.keep (fun k hk => hb.block k hk) t h
theorem IsIt.parts {w : World} {S : Nat → Prop} {x : It} {u0 u1 u2 u3 : Value} (h : IsIt w S x (.agg #[u0, u1, u2, u3])) :
    ∃ k n s a m c, u0 = .int .i64 k ∧ u1 = .int .i64 n ∧ u2 = .string s ∧ u3 = .slice a m c := by
  cases x with
  | mk k n s l =>
    rw [IsIt] at h
    obtain ⟨a, c, he, _⟩ := h
    simp only [Value.agg.injEq, Array.mk.injEq, List.cons.injEq, and_true] at he
    exact ⟨k, n, s, a, l.length, c, he.1, he.2.1, he.2.2.1, he.2.2.2⟩
/-- weigh, whatever the item's meaning is -/
def WeighAny (g : Nat) (i b : Int) (d : Bool) (k n : Int) (s : ByteArray) (m : Nat) (w : World) (e : Ending) (w' : World) : Prop :=
  e = .returned (.tuple #[]) ∧ w.grownBy w' (some g) ∧ ∃ b', Tal w' g i b' (d || !form k n s m) ∧ b ≤ b' ∧ b' ≤ b + 4200 ∧ (form k n s m = true → b' = b + own k n s m)
theorem weigh_any (g : Nat) (i b : Int) (d : Bool) (k n : Int) (s : ByteArray) (a : Option Addr) (m c : Nat) (w : World) (ht : Tal w g i b d) (hb : 0 ≤ b ∧ b ≤ 1099511627776) (hn : InR n)
    (hm : m ≤ 9223372036854775807) (hl : k = 2 → s.size ≤ 4096) : Calls Tryz.prog 100 #[.pointer (some ⟨g, 0, none⟩), mean k n s m (.slice a m c)] w (WeighAny g i b d k n s m w) := by
  have hd1 := dgs_le (foldN n)
  have hd2 := dgs_le s.size
  have hd3 := dgs_le m
  unfold mean
  by_cases h1 : k = 1 ∧ s.size = 0 ∧ m = 0
  · rw [if_pos h1]
    have hf : form k n s m = true := by simp [form, h1]
    have ho : own k n s m = 2 + dgs (foldN n) := by simp [own, h1.1]
    refine (weigh_num g i b d n w ht hb hn.1 hn.2).mono fun e w' h => ⟨h.1, h.2.2, _, by simpa [hf] using h.2.1, by omega, by omega, fun _ => by rw [ho]; omega⟩
  rw [if_neg h1]
  by_cases h2 : k = 2 ∧ n = 0 ∧ m = 0
  · rw [if_pos h2]
    have hf : form k n s m = true := by simp [form, h2]
    have ho : own k n s m = 2 + dgs s.size + s.size := by simp [own, h2.1]
    have hl' := hl h2.1
    refine (weigh_text g i b d s w ht hb (by omega)).mono fun e w' h => ⟨h.1, h.2.2, _, by simpa [hf] using h.2.1, by omega, by omega, fun _ => by rw [ho]; omega⟩
  rw [if_neg h2]
  by_cases h3 : k = 3 ∧ n = 0 ∧ s.size = 0
  · rw [if_pos h3]
    have hf : form k n s m = true := by simp [form, h3]
    have ho : own k n s m = 2 + dgs m := by simp [own, h3.1]
    refine (weigh_list g i b d a m c w ht hb hm).mono fun e w' h => ⟨h.1, h.2.2, _, by simpa [hf] using h.2.1, by omega, by omega, fun _ => by rw [ho]; omega⟩
  rw [if_neg h3]
  have hf : form k n s m = false := by
    rw [Bool.eq_false_iff]; intro hc
    simp only [form, Bool.or_eq_true, Bool.and_eq_true, beq_iff_eq] at hc
    rcases hc with (⟨⟨a1, a2⟩, a3⟩ | ⟨⟨a1, a2⟩, a3⟩) | ⟨⟨a1, a2⟩, a3⟩
    · exact h1 ⟨a1, a2, a3⟩
    · exact h2 ⟨a1, a2, a3⟩
    · exact h3 ⟨a1, a2, a3⟩
  refine (weigh_none g i b d w ht).mono fun e w' h => ⟨h.1, h.2.2, b, by simpa [hf] using h.2.1, by omega, by omega, fun hc => by rw [hf] at hc; cases hc⟩
end Go.Proofs.YtebacdegjmcnlaaGreat
namespace Go.Proofs.YtebacdegjmcnlaaGreat
open Go.RowKit Pl
set_option linter.unusedVariables false
def AddPost (g : Nat) (t : It) (i b : Int) (d : Bool) (dp : Int) (w : World) (e : Ending) (w' : World) : Prop :=
  e = .returned (.bool (fits t i dp)) ∧ w.grownBy w' (some g) ∧ (fits t i dp = true → ∃ b', Tal w' g (i + t.cnt) b' (d || !t.good) ∧ b ≤ b' ∧ b' ≤ b + 4200 * t.cnt ∧ (t.good = true → b' = b + t.enc.length))
/-- a list's head in the loop: the first j have been added -/
def AddRel (g : Nat) (l : List It) (i b : Int) (d0 : Bool) (dp : Int) (w : World) (u : Value) (wr : World) : Prop :=
  ∃ j : Nat, j ≤ l.length ∧ u = .int .i64 j ∧ fitsL (l.take j) (i + 1) (dp + 1) = true ∧ w.grownBy wr (some g) ∧ ∃ b', Tal wr g (i + 1 + cnts (l.take j)) b' (d0 || !goods (l.take j)) ∧ b ≤ b' ∧
    b' ≤ b + 4200 * cnts (l.take j) ∧ (goods (l.take j) = true → b' = b + (encs (l.take j)).length)
theorem rel_snoc {g : Nat} {l : List It} {i b : Int} {d0 : Bool} {dp : Int} {w w3 : World} {j : Nat} {x : It} {bb b3 : Int} (hlt : j < l.length) (hts : l.take (j + 1) = l.take j ++ [x])
    (hf : fitsL (l.take j) (i + 1) (dp + 1) = true) (hfx : fits x (i + 1 + cnts (l.take j)) (dp + 1) = true) (hg : w.grownBy w3 (some g)) (h1 : b ≤ bb) (h2 : bb ≤ b + 4200 * cnts (l.take j)) (h3 : goods (l.take j) = true → bb = b + (encs (l.take j)).length)
    (hT : Tal w3 g (i + 1 + cnts (l.take j) + x.cnt) b3 (d0 || !goods (l.take j) || !x.good)) (h4 : bb ≤ b3) (h5 : b3 ≤ bb + 4200 * x.cnt) (h6 : x.good = true → b3 = bb + x.enc.length) :
    AddRel g l i b d0 dp w (.int .i64 ((j : Int) + 1)) w3 := by
  refine ⟨j + 1, by omega, by rw [Int.natCast_add]; rfl, by rw [hts, fitsL_snoc, hf, hfx]; rfl, hg, b3, ?_, by omega, ?_, ?_⟩
  · rw [hts, cnts_append, cnts_one, goods_append, goods_one]
    have e1 : i + 1 + ((cnts (l.take j) + x.cnt : Nat) : Int) = i + 1 + cnts (l.take j) + x.cnt := by omega
    have e2 : (d0 || !(goods (l.take j) && x.good)) = (d0 || !goods (l.take j) || !x.good) := by rw [Bool.not_and, Bool.or_assoc]
    rw [e1, e2]; exact hT
  · rw [hts, cnts_append, cnts_one]; omega
  · rw [hts, goods_append, goods_one, encs_append, encs_one, List.length_append]
    intro h
    rw [Bool.and_eq_true] at h
    have a1 := h3 h.1
    have a2 := h6 h.2
    omega
theorem rel_end {g : Nat} {k n : Int} {s : ByteArray} {l : List It} {i b b' bb : Int} {d : Bool} {dp : Int} {w wr : World} {j : Nat} (ej : j = l.length) (i1 : i + 1 ≤ 4096) (d1 : dp ≤ 12) (hs : k = 2 → s.size ≤ 4096)
    (hf : fitsL (l.take j) (i + 1) (dp + 1) = true) (hg : w.grownBy wr (some g)) (hb : form k n s l.length = true → b' = b + own k n s l.length) (hb1 : b ≤ b') (hb2 : b' ≤ b + 4200)
    (hT : Tal wr g (i + 1 + cnts (l.take j)) bb (d || !form k n s l.length || !goods (l.take j))) (h1 : b' ≤ bb) (h2 : bb ≤ b' + 4200 * cnts (l.take j)) (h3 : goods (l.take j) = true → bb = b' + (encs (l.take j)).length) :
    w.grownBy wr (some g) ∧ (fits (.mk k n s l) i dp = true → ∃ b', Tal wr g (i + (It.mk k n s l).cnt) b' (d || !(It.mk k n s l).good) ∧ b ≤ b' ∧ b' ≤ b + 4200 * (It.mk k n s l).cnt ∧ ((It.mk k n s l).good = true → b' = b + (It.mk k n s l).enc.length)) := by
  subst ej
  rw [List.take_length] at *
  refine ⟨hg, fun _ => ⟨bb, ?_, by omega, ?_, ?_⟩⟩
  · rw [cnt_mk, good_mk]
    have e1 : i + ((1 + cnts l : Nat) : Int) = i + 1 + cnts l := by omega
    have e2 : (d || !(form k n s l.length && goods l)) = (d || !form k n s l.length || !goods l) := by rw [Bool.not_and, Bool.or_assoc]
    rw [e1, e2]; exact hT
  · rw [cnt_mk]; omega
  · rw [good_mk, Bool.and_eq_true]
    intro h
    rw [enc_length h.1]
    have a1 := hb h.1
    have a2 := h3 h.2
    omega
def AddAll (N : Nat) : Prop := ∀ (t : It) (g : Nat) (i b : Int) (d : Bool) (dp : Int) (v : Value) (S : Nat → Prop) (w : World), t.cnt ≤ N → IsIt w S t v → (∀ q, S q → q < w.heap.size ∧ q ≠ g) → Tal w g i b d → 0 ≤ i → i ≤ 4096 → 0 ≤ b → b ≤ 4200 * i → 0 ≤ dp → dp ≤ 13 →
    Calls Tryz.prog 73 #[.pointer (some ⟨g, 0, none⟩), v, .int .i64 dp] w (AddPost g t i b d dp w)
set_option maxRecDepth 20000 in
theorem add_step (N : Nat) (ih : AddAll N) (k n : Int) (s : ByteArray) (l : List It) (a : Option Addr) (c : Nat) (g : Nat) (i b : Int) (d : Bool) (dp : Int) (S : Nat → Prop) (w : World)
    (hN : cnts l ≤ N) (hn : InR n) (hm : l.length ≤ maxLen) (hl : AreIts w S l a 0) (hg : ∀ q, S q → q < w.heap.size ∧ q ≠ g) (ht : Tal w g i b d) (i0 : 0 ≤ i) (i1 : i + 1 ≤ 4096) (b0 : 0 ≤ b) (b1 : b ≤ 4200 * i) (d0 : 0 ≤ dp) (d1 : dp ≤ 12)
    (hs : k = 2 → s.size ≤ 4096) (hk : (k == 2) = false ∨ ((k == 2) = true ∧ ((s.size : Int) ≤ 4096))) :
    Calls Tryz.prog 73 #[.pointer (some ⟨g, 0, none⟩), .agg #[.int .i64 k, .int .i64 n, .string s, .slice a l.length c], .int .i64 dp] w (AddPost g (.mk k n s l) i b d dp w) := by
  have c0 := ht.c0
  have f0 := ht.fr 0
  have hgl : g < w.heap.size := World.block_lt_of_cell? w _ c0
  have HT := Lib.hid ht
  have HL := Lib.hid hl
  have HI := Lib.hid ih
  have HS := Lib.hid hs
  unfold maxLen at hm
  have HSg := Lib.hid hg
  clear ht hl ih hs hg
  rcases hk with hk | ⟨hk, hk4⟩
  all_goals
    go_enter Tryz.func73, Tryz.ntmps73
    go_wp2_with fail
    refine (meaning_any _ _ _ _ _ _ _).mono ?_
    rintro e w1 ⟨rfl, hb1⟩
    have hT1 : Tal w1 g (i + 1) b d := (hb1.block g (by simp; omega)).trans ((Below.heap_alloc _ _ g (by simpa using hgl)).trans (HT.out.set0 (i + 1)))
    have hx1 : w1.heap[w.heap.size]? = some (.cells #[.int .i64 k, .int .i64 n, .string s, .slice a l.length c] 50 (0, 0)) := (hb1.block _ (by simp)).trans (by rw [show w.heap.size = (w.setCell ⟨g, 0, none⟩ (.int .i64 (i + 1))).heap.size from (World.size_setCell _ _ _).symm]; exact heap_alloc_new _ _)
    have hg1 : w.grownBy w1 (some g) := grownBy_trans (grownBy_set w g 0 (.int .i64 (i + 1))) (grownBy_below (((Below.refl _ _).alloc (Nat.le_refl _) _).trans (hb1.mono (by simp))) _)
    have HX := Lib.hid hx1
    have HG := Lib.hid hg1
    have HT1 := Lib.hid hT1
    clear hb1 hx1 hg1 hT1 c0 f0 HT
    go_wp2_with fail
    refine (weigh_any g (i + 1) b d k n s a l.length c w1 HT1.out ⟨b0, by omega⟩ hn (by omega) HS.out).mono ?_
    rintro e w2 ⟨rfl, hg2, b', hT2, hb1, hb2, hb3⟩
    have hne : w.heap.size ≠ g := by omega
    have hx2 : w2.heap[w.heap.size]? = some (.cells #[.int .i64 k, .int .i64 n, .string s, .slice a l.length c] 50 (0, 0)) := (hg2.block _ (Array.getElem?_eq_some_iff.1 HX.out).1 (by simpa using hne)).trans HX.out
    have hc3 : w2.cell? ⟨w.heap.size, 3, none⟩ = some (.slice a l.length c) := cell_of_row w2 _ 3 _ _ _ hx2
    have hgg := grownBy_trans HG.out hg2
    have HG2 := Lib.hid hgg
    have HT2 := Lib.hid hT2
    have HB3 := Lib.hid hb3
    clear HX HG HT1 hg2 hT2 hx2 hgg hb3
    go_wp2_with fail
    go_loopw [43] (fun u wr => AddRel g l i b' (d || !form k n s l.length) dp w u wr) (fun u _ => (l.length - (intOf u).toNat))
    case atStart => exact ⟨0, by omega, rfl, by simp [fitsL, cnts, deps, longs]; omega, HG2.out, b', by simpa [cnts, goods] using HT2.out, by omega, by simp [cnts], by simp [encs]⟩
    case round =>
      obtain ⟨j, hj, rfl, hfit, hgr, bb, hTr, hbb1, hbb2, hbb3⟩ := hrel
      have hkeep : ∀ q, S q → wr.heap[q]? = w.heap[q]? := fun q hq => hgr.block q (HSg.out q hq).1 (by simpa using (HSg.out q hq).2)
      by_cases hlt : j < l.length
      · obtain ⟨bk, off, u0, u1, u2, u3, rfl, hSb, k0, k1, k2, k3, hx⟩ := (AreIts.keep hkeep l HL.out).at_ (k := j) (x := l[j]) (List.getElem?_eq_getElem hlt)
        have hts := take_succ' l j l[j] (List.getElem?_eq_getElem hlt)
        have hmc := mem_cnt (List.getElem?_eq_getElem hlt)
        generalize l[j] = x at hx hts hmc
        obtain ⟨qk, qn, qs, qa, qm, qc, rfl, rfl, rfl, rfl⟩ := hx.parts
        have HX := Lib.hid hx
        have HTS := Lib.hid hts
        have HTR := Lib.hid hTr
        have HBB := Lib.hid hbb3
        have HF := Lib.hid hfit
        have hbl := (HSg.out bk hSb).1
        have hsz := hgr.size
        have HGR := Lib.hid hgr
        clear hx hts hTr hbb3 hfit hkeep hgr
        rw [Nat.zero_add] at k0 k1 k2 k3
        go_wp2_with fail
        have hfb := fitsL_bounds HF.out
        have hbb := HBB.out
        refine (HI.out x g _ bb _ (dp + 1) _ S _ (by omega) (IsIt.keep (fun q hq => Below.heap_alloc _ _ q (by have := (HSg.out q hq).1; omega)) x HX.out) (fun q hq => ⟨by have := (HSg.out q hq).1; simp; omega, (HSg.out q hq).2⟩)
          (show Tal _ g (i + 1 + cnts (l.take j)) bb (d || !form k n s l.length || !goods (List.take j l)) from (Below.heap_alloc _ _ g (by omega)).trans HTR.out) (by omega) (by omega) (by omega) (by omega) (by omega) (by omega)).mono ?_
        rintro e w3 ⟨rfl, hg3, hok⟩
        have hg4 : w.grownBy w3 (some g) := grownBy_trans HGR.out (grownBy_trans (World.grownBy_alloc _ _ _) hg3)
        have HG4 := Lib.hid hg4
        have HOK := Lib.hid hok
        clear hg3 hg4 hok hbb hfb
        generalize hfx : fits x (i + 1 + cnts (l.take j)) (dp + 1) = fx
        cases fx
        · have HFX := Lib.hid hfx
          clear hfx
          go_wp2_with fail
          go_ret
          have hff := fits_false (k := k) (n := n) (s := s) j x HTS.out HFX.out
          exact ⟨by rw [hff]; rfl, HG4.out, fun h => by rw [hff] at h; cases h⟩
        · have HFX := Lib.hid hfx
          clear hfx
          go_wp2_with fail
          go_roundw
          case rel =>
            obtain ⟨b3, q1, q2, q3, q4⟩ := HOK.out HFX.out
            exact rel_snoc hlt HTS.out HF.out HFX.out HG4.out hbb1 hbb2 HBB.out q1 q2 q3 q4
          case measure => simp [intOf]; omega
      · have ej : j = l.length := by omega
        have hfitl := hfit
        rw [ej, List.take_length] at hfitl
        have hend := rel_end (k := k) (n := n) (s := s) (d := d) (b := b) ej i1 d1 HS.out hfit hgr (HB3.out) hb1 hb2 hTr hbb1 hbb2 hbb3
        have HE := Lib.hid hend
        have HFF := Lib.hid (fits_true i1 d1 HS.out hfitl : fits (.mk k n s l) i dp = true)
        clear hend hTr hbb3 hgr hfit hfitl hkeep
        go_wp2_with fail
        go_ret
        exact ⟨by rw [HFF.out]; rfl, HE.out.1, HE.out.2⟩
def AddNo (g : Nat) (w : World) (e : Ending) (w' : World) : Prop := e = .returned (.bool false) ∧ w.grownBy w' (some g)
set_option maxRecDepth 20000 in
theorem add_no (k n : Int) (s : ByteArray) (a : Option Addr) (m c : Nat) (g : Nat) (i b : Int) (d : Bool) (dp : Int) (w : World) (ht : Tal w g i b d) (i0 : 0 ≤ i) (i1 : i ≤ 4096)
    (h : 4096 < i + 1 ∨ (i + 1 ≤ 4096 ∧ 12 < dp) ∨ (i + 1 ≤ 4096 ∧ dp ≤ 12 ∧ (k == 2) = true ∧ 4096 < (s.size : Int))) :
    Calls Tryz.prog 73 #[.pointer (some ⟨g, 0, none⟩), .agg #[.int .i64 k, .int .i64 n, .string s, .slice a m c], .int .i64 dp] w (AddNo g w) := by
  have c0 := ht.c0
  have f0 := ht.fr 0
  have hgl : g < w.heap.size := World.block_lt_of_cell? w _ c0
  clear ht
  rcases h with h | ⟨h1, h2⟩ | ⟨h1, h2, h3, h4⟩
  all_goals
    go_enter Tryz.func73, Tryz.ntmps73
    go_wp2_with fail
    go_ret
    exact ⟨rfl, grownBy_trans (grownBy_set w g 0 (.int .i64 (i + 1))) (World.grownBy_alloc _ _ _)⟩
theorem add_all : ∀ N, AddAll N := by
  intro N
  induction N with
  | zero => intro t _ _ _ _ _ _ _ _ h; have := cnt_pos t; omega
  | succ N ih =>
    intro t g i b d dp v S w hN hv hS hT i0 i1 b0 b1 d0 d1
    obtain ⟨k, n, s, l⟩ := t
    rw [IsIt] at hv
    obtain ⟨a, c, rfl, hk, hn, hs, hl, hal⟩ := hv
    rw [cnt_mk] at hN
    have no : ∀ (h : 4096 < i + 1 ∨ (i + 1 ≤ 4096 ∧ 12 < dp) ∨ (i + 1 ≤ 4096 ∧ dp ≤ 12 ∧ (k == 2) = true ∧ 4096 < (s.size : Int))),
        Calls Tryz.prog 73 #[.pointer (some ⟨g, 0, none⟩), .agg #[.int .i64 k, .int .i64 n, .string s, .slice a l.length c], .int .i64 dp] w (AddPost g (.mk k n s l) i b d dp w) := by
      intro h
      have hf : fits (.mk k n s l) i dp = false := by
        rw [fits_mk]
        rcases h with h | ⟨h1, h2⟩ | ⟨h1, h2, h3, h4⟩
        · rw [show decide (i + 1 ≤ 4096) = false from by simp; omega]; rfl
        · rw [show decide (dp ≤ 12) = false from by simp; omega]; simp
        · rw [h3, show decide (4096 < s.size) = true from by simp; omega]; simp
      refine (add_no k n s a l.length c g i b d dp w hT i0 i1 h).mono fun e w' h => ⟨by rw [hf]; exact h.1, h.2, fun hc => by rw [hf] at hc; cases hc⟩
    by_cases c1 : 4096 < i + 1
    · exact no (.inl c1)
    by_cases c2 : 12 < dp
    · exact no (.inr (.inl ⟨by omega, c2⟩))
    by_cases c3 : (k == 2) = true ∧ 4096 < (s.size : Int)
    · exact no (.inr (.inr ⟨by omega, by omega, c3.1, c3.2⟩))
    refine add_step N ih k n s l a c g i b d dp S w (by omega) hn hl hal hS hT i0 (by omega) b0 b1 d0 (by omega) (fun h2 => ?_) ?_
    · subst h2
      have : ¬ 4096 < (s.size : Int) := fun hc => c3 ⟨rfl, hc⟩
      omega
    · by_cases h2 : (k == 2) = true
      · have : ¬ 4096 < (s.size : Int) := fun hc => c3 ⟨h2, hc⟩
        exact .inr ⟨h2, by omega⟩
      · exact .inl (by simpa using h2)
end Go.Proofs.YtebacdegjmcnlaaGreat
namespace Go.Proofs.YtebacdegjmcnlaaGreat
open Go.RowKit Pl
set_option linter.unusedVariables false
def errOf (t : It) : Int := if fits t 0 1 = true then (if t.good = true then 0 else 4) else 3
def szOf (t : It) : Int := if fits t 0 1 = true ∧ t.good = true then t.enc.length else 0
def MeasPost (t : It) (w : World) (e : Ending) (w' : World) : Prop := e = .returned (.tuple #[.int .i64 (szOf t), .int .i64 (errOf t)]) ∧ Below w.heap.size w w'
theorem below_of_grown {w w' : World} {r : Nat} (B : Nat) (h : w.grownBy w' (some r)) (hB : B ≤ w.heap.size) (hr : B ≤ r) : Below B w w' :=
  ⟨h.os, h.tape, h.output, h.size, fun k hk => h.block k (by omega) (fun e => by injection e with e; omega)⟩
theorem tal_new (w : World) (o : Obj) : Tal ((w.alloc o).alloc (.cells #[.int .i64 0, .int .i64 0, .bool false] 103)) (w.heap.size + 1) 0 0 false := by
  have := heap_alloc_new (w.alloc o) (.cells #[.int .i64 0, .int .i64 0, .bool false] 103)
  rwa [World.size_alloc] at this
set_option maxRecDepth 20000 in
theorem measure_any (t : It) (v : Value) (w : World) (hv : IsIt w (· < w.heap.size) t v) : Calls Tryz.prog 47 #[v] w (MeasPost t w) := by
  have hv0 := hv
  obtain ⟨k, n, s, l⟩ := t
  rw [IsIt] at hv0
  obtain ⟨a, c, rfl, _, _, _, _, _⟩ := hv0
  generalize htt : It.mk k n s l = t at *
  have HTT := Lib.hid htt
  have HV := Lib.hid hv
  clear htt hv
  go_enter Tryz.func47, Tryz.ntmps47
  go_wp2_with fail
  refine (add_all t.cnt t (w.heap.size + 1) 0 0 false 1 _ (· < w.heap.size) _ (Nat.le_refl _) (IsIt.keep (fun q hq => by rw [Below.heap_alloc _ _ q (by simp; omega), Below.heap_alloc _ _ q (by omega)]) t HV.out) (fun q hq => ⟨by simp; omega, by omega⟩)
    (by exact tal_new _ _) (by omega) (by omega) (by omega) (by omega) (by omega) (by omega)).mono ?_
  rintro e w1 ⟨rfl, hg, hok⟩
  have hbel : Below w.heap.size w w1 := (((Below.refl _ _).alloc (Nat.le_refl _) _).alloc (by simp) _).trans (below_of_grown w.heap.size hg (by simp; omega) (by omega))
  have HB := Lib.hid hbel
  clear hg hbel
  generalize hf : fits t 0 1 = f at *
  cases f
  · have HF := Lib.hid hf
    clear hf hok
    go_wp2_with fail
    go_ret2
    exact ⟨by simp [szOf, errOf, HF.out], HB.out⟩
  · obtain ⟨b', hT, hb1, hb2, hb3⟩ := hok rfl
    have h1 := hT.c1
    have h2 := hT.c2
    have HF := Lib.hid hf
    have HB3 := Lib.hid hb3
    clear hf hok hb3 hT
    generalize hgd : t.good = gd at *
    have HG := Lib.hid hgd
    clear hgd
    cases gd
    · simp only [Bool.not_false, Bool.or_true] at h2
      go_wp2_with fail
      go_ret2
      exact ⟨by simp [szOf, errOf, HF.out, HG.out], HB.out⟩
    · simp only [Bool.not_true, Bool.or_false] at h2
      have hb4 := HB3.out rfl
      have HB4 := Lib.hid hb4
      clear hb4
      go_wp2_with fail
      go_ret2
      exact ⟨by simp [szOf, errOf, HF.out, HG.out, HB4.out], HB.out⟩
end Go.Proofs.YtebacdegjmcnlaaGreat
namespace Go.Proofs.YtebacdegjmcnlaaGreat
open Go.RowKit Pl
set_option linter.unusedVariables false
theorem strCells_vB (s : ByteArray) : Lib.strCells s = vB s.data.toList := rfl
/-- append of a text's bytes -/
theorem wp_appS {ops : Array Oper} {rest : List Oper} {o : Oper} {a : Act} {Q : Exit → Act → World → Prop} {w : World} (hgd : o.guard = none) (sl x : Operand)
    (ho : o.op = .call { callee := .builtin .append, args := #[sl, x], argTypes := #[58, 9] })
    (base : Nat) (v : Value) (l : List UInt8) (hs : a.eval sl = v) (hown : OwnB w base v l) (s : ByteArray) (hx : a.eval x = .string s)
    (hlen : l.length + s.size ≤ 70368744177664) (hbase : base ≤ w.heap.size)
    (h : ∀ v' w', OwnB w' base v' (l ++ s.data.toList) → Below base w w' → wpList Tryz.prog ops Q rest (a.put o.dst v') w') : wpList Tryz.prog ops Q (o :: rest) a w := by
  obtain ⟨i5, hi5, hz0, hz1, hz2⟩ := info_parts info5
  refine Lib.wpList_append_own_string w hgd sl x 58 9 ho base 5 i5 Tryz.underlying58 Tryz.underlying9 hi5 hz0 hz1 hz2 v l.length (vB l) hs hown s hx (by simp only [maxLen]; omega) (by omega) hbase ?_
  intro v' w' h2 h3 _
  refine h v' w' ?_ ((Below.refl _ _).grown h3 hbase fun k hk => (hown.lt k hk).1)
  unfold OwnB
  rw [vB_append, ← strCells_vB, List.length_append, show s.data.toList.length = s.size by simp only [Array.length_toList]; rfl]
  exact h2
theorem OwnB.belowB {w w' : World} {base : Nat} {v : Value} {l : List UInt8} (h : OwnB w base v l) (hb : Below w.heap.size w w') : OwnB w' base v l := h.below hb
set_option maxRecDepth 20000 in
theorem appItem_num (base : Nat) (v : Value) (xs : List UInt8) (n : Int) (s : ByteArray) (a : Option Addr) (c : Nat) (w : World) (hn : InR n) (hs : s.size = 0) (hown : OwnB w base v xs) (hb : base ≤ w.heap.size) (hl : xs.length ≤ 1099511627775) :
    Calls Tryz.prog 48 #[v, .agg #[.int .i64 1, .int .i64 n, .string s, .slice a 0 c]] w (AppPost base (xs ++ 1 :: cntB (foldN n)) w) := by
  have hf := foldN_lt' n hn.1 hn.2
  go_enter Tryz.func48, Tryz.ntmps48
  go_wp2_with fail
  refine (meaning_any _ _ _ _ _ _ _).mono ?_
  rintro e w1 ⟨rfl, hb1⟩
  have hb2 : Below w.heap.size w w1 := ((Below.refl _ _).alloc (Nat.le_refl _) _).trans (hb1.mono (by simp))
  have hown1 := hown.below hb2
  have hb3 := hb2.mono hb
  have hsz := hb2.size
  have HB := Lib.hid hb3
  have t1 := fun W => ta22 n W
  rw [show mean 1 n s 0 (.slice a 0 c) = .iface 2 (.int .i64 n) from by simp [mean, hs]]
  clear hb1 hb2 hb3 hown hs
  go_wp2_with (first
    | (at_builtin; (refine wp_app1 rfl (.tmp 22) (.tmp 23) rfl base v xs rfl (hown1.below ((Below.refl _ _).alloc (Nat.le_refl _) _)) _ _ rfl _ (by simp [go_sem]; rfl) ⟨by omega, by omega⟩ (by omega) (by simp; omega) ?_); intro v2 w2 hown2 hb2)
    | (go_at_call 76; refine (fold_any _ _ (by exact hn.1) (by exact hn.2)).mono ?_; rintro e w' ⟨rfl, rfl⟩))
  have hb5 := HB.out.trans (((Below.refl _ _).alloc (by omega) _).trans hb2)
  have hsz2 := hb5.size
  have HB5 := Lib.hid hb5
  clear hb2 hb5
  refine (appendCount_any base v2 _ _ _ hown2 (by simp; omega) (by omega) (by omega) (by omega)).mono ?_
  rintro e w3 ⟨v3, rfl, hown3, hb6⟩
  go_wp2_with fail
  go_ret
  refine ⟨v3, rfl, ?_, HB5.out.trans hb6⟩
  simpa using hown3
set_option maxRecDepth 20000 in
theorem appItem_text (base : Nat) (v : Value) (xs : List UInt8) (n : Int) (s : ByteArray) (a : Option Addr) (c : Nat) (w : World) (hn : n = 0) (hs : s.size ≤ 4096) (hown : OwnB w base v xs) (hb : base ≤ w.heap.size) (hl : xs.length ≤ 1099511627775) :
    Calls Tryz.prog 48 #[v, .agg #[.int .i64 2, .int .i64 n, .string s, .slice a 0 c]] w (AppPost base (xs ++ 2 :: (cntB s.size ++ s.data.toList)) w) := by
  subst hn
  go_enter Tryz.func48, Tryz.ntmps48
  go_wp2_with fail
  refine (meaning_any _ _ _ _ _ _ _).mono ?_
  rintro e w1 ⟨rfl, hb1⟩
  have hb2 : Below w.heap.size w w1 := ((Below.refl _ _).alloc (Nat.le_refl _) _).trans (hb1.mono (by simp))
  have hown1 := hown.below hb2
  have hb3 := hb2.mono hb
  have hsz := hb2.size
  have HB := Lib.hid hb3
  have t1 := fun W => ta92 s W
  have t2 := fun W => ta99 s W
  rw [show mean 2 0 s 0 (.slice a 0 c) = .iface 9 (.string s) from by simp [mean]]
  clear hb1 hb2 hb3 hown
  go_wp2_with (first
    | (at_builtin; (refine wp_app1 rfl (.tmp 34) (.tmp 35) rfl base v xs rfl (hown1.below ((Below.refl _ _).alloc (Nat.le_refl _) _)) _ _ rfl _ (by simp [go_sem]; rfl) ⟨by omega, by omega⟩ (by omega) (by simp; omega) ?_); intro v2 w2 hown2 hb2))
  have hb5 := HB.out.trans (((Below.refl _ _).alloc (by omega) _).trans hb2)
  have hsz2 := hb5.size
  have HB5 := Lib.hid hb5
  clear hb2 hb5
  refine (appendCount_any base v2 _ _ _ hown2 (by simp; omega) (by omega) (by omega) (by omega)).mono ?_
  rintro e w3 ⟨v3, rfl, hown3, hb6⟩
  have hb7 := HB5.out.trans hb6
  have hsz3 := hb7.size
  have HB7 := Lib.hid hb7
  clear hb7 hb6
  have hd := dgs_le s.size
  go_wp2_with (at_builtin; (refine wp_appS rfl (.tmp 41) (.tmp 42) rfl base v3 _ rfl hown3 s rfl (by simp [cntB_length]; omega) (by omega) ?_); intro v4 w4 hown4 hb8)
  go_ret
  refine ⟨v4, rfl, ?_, HB7.out.trans hb8⟩
  simpa using hown4
def AppItemAll (N : Nat) : Prop := ∀ (t : It) (base : Nat) (v iv : Value) (xs : List UInt8) (w : World), t.cnt ≤ N → t.good = true → t.long = false → IsIt w (· < base) t iv → OwnB w base v xs → base ≤ w.heap.size → xs.length + t.enc.length ≤ 1099511627775 →
    Calls Tryz.prog 48 #[v, iv] w (AppPost base (xs ++ t.enc) w)
def AppRel (base : Nat) (xs : List UInt8) (l : List It) (w : World) (u i : Value) (wr : World) : Prop :=
  ∃ j : Nat, j ≤ l.length ∧ i = .int .i64 j ∧ OwnB wr base u (xs ++ encs (l.take j)) ∧ Below base w wr
set_option maxRecDepth 20000 in
theorem appItem_list (N : Nat) (ih : AppItemAll N) (base : Nat) (v : Value) (xs : List UInt8) (n : Int) (s : ByteArray) (l : List It) (a : Option Addr) (c : Nat) (w : World) (hn : n = 0) (hs : s.size = 0) (hN : cnts l ≤ N) (hgd : goods l = true) (hlo : longs l = false)
    (hal : AreIts w (· < base) l a 0) (hown : OwnB w base v xs) (hb : base ≤ w.heap.size) (hl : xs.length + 2 + dgs l.length + (encs l).length ≤ 1099511627775) (hll : l.length ≤ 9223372036854775807) :
    Calls Tryz.prog 48 #[v, .agg #[.int .i64 3, .int .i64 n, .string s, .slice a l.length c]] w (AppPost base (xs ++ 3 :: (cntB l.length ++ encs l)) w) := by
  subst hn
  have hd := dgs_le l.length
  have HL := Lib.hid hal
  have HI := Lib.hid ih
  have HGD := Lib.hid hgd
  have HLO := Lib.hid hlo
  clear hal ih hgd hlo
  go_enter Tryz.func48, Tryz.ntmps48
  go_wp2_with fail
  refine (meaning_any _ _ _ _ _ _ _).mono ?_
  rintro e w1 ⟨rfl, hb1⟩
  have hb2 : Below w.heap.size w w1 := ((Below.refl _ _).alloc (Nat.le_refl _) _).trans (hb1.mono (by simp))
  have hown1 := hown.below hb2
  have hb3 := hb2.mono hb
  have hsz := hb2.size
  have HB := Lib.hid hb3
  have t1 := fun W => ta242 a l.length c W
  have t2 := fun W => ta249 a l.length c W
  have t3 := fun W => ta2424 a l.length c W
  rw [show mean 3 0 s l.length (.slice a l.length c) = .iface 48 (.slice a l.length c) from by simp [mean, hs]]
  clear hb1 hb2 hb3 hown hs
  go_wp2_with (first
    | (at_builtin; (refine wp_app1 rfl (.tmp 50) (.tmp 51) rfl base v xs rfl (hown1.below ((Below.refl _ _).alloc (Nat.le_refl _) _)) _ _ rfl _ (by simp [go_sem]; rfl) ⟨by omega, by omega⟩ (by omega) (by simp; omega) ?_); intro v2 w2 hown2 hb2))
  have hb5 := HB.out.trans (((Below.refl _ _).alloc (by omega) _).trans hb2)
  have hsz2 := hb5.size
  have HB5 := Lib.hid hb5
  clear hb2 hb5
  refine (appendCount_any base v2 _ _ _ hown2 (by simp; omega) (by omega) (by omega) (by omega)).mono ?_
  rintro e w3 ⟨v3, rfl, hown3, hb6⟩
  have hb7 := HB5.out.trans hb6
  have hsz3 := hb7.size
  have HB7 := Lib.hid hb7
  have HO3 := Lib.hid hown3
  clear hb7 hb6 hown3 hown2 hown1
  go_wp2_with fail
  go_loopw [0, 59] (fun u i wr => AppRel base (xs ++ 3 :: cntB l.length) l w u i wr) (fun _ i _ => (l.length - (intOf i).toNat))
  case atStart => exact ⟨0, by omega, rfl, by simpa [encs] using HO3.out, HB7.out⟩
  case round =>
    obtain ⟨j, hj, rfl, hownr, hbr⟩ := hrel
    have hbs := hbr.size
    by_cases hlt : j < l.length
    · obtain ⟨bk, off, u0, u1, u2, u3, rfl, hSb, k0, k1, k2, k3, hx⟩ := (AreIts.keep (fun q hq => hbr.block q hq) l HL.out).at_ (k := j) (x := l[j]) (List.getElem?_eq_getElem hlt)
      have hts := take_succ' l j l[j] (List.getElem?_eq_getElem hlt)
      have hmc := mem_cnt (List.getElem?_eq_getElem hlt)
      generalize l[j] = x at hx hts hmc
      have hxg := goods_take hts HGD.out
      have hxl := longs_take hts HLO.out
      have hxe := encs_take hts
      obtain ⟨qk, qn, qs, qa, qm, qc, rfl, rfl, rfl, rfl⟩ := hx.parts
      have HX := Lib.hid hx
      have HTS := Lib.hid hts
      have HBR := Lib.hid hbr
      have HOW := Lib.hid hownr
      have HXG := Lib.hid hxg
      have HXL := Lib.hid hxl
      clear hx hts hbr hownr hxg hxl
      rw [Nat.zero_add] at k0 k1 k2 k3
      go_wp2_with fail
      refine (HI.out x base _ _ _ _ (by omega) HXG.out HXL.out (HX.out.below ((Below.refl _ _).alloc (by omega) _)) (HOW.out.below ((Below.refl _ _).alloc (Nat.le_refl _) _)) (by simp; omega) (by simp [cntB_length]; omega)).mono ?_
      rintro e w4 ⟨v4, rfl, hown4, hb8⟩
      have hb9 := HBR.out.trans (((Below.refl _ _).alloc (by omega) _).trans hb8)
      have HB9 := Lib.hid hb9
      have HO4 := Lib.hid hown4
      clear hb8 hb9 hown4
      go_wp2_with fail
      go_roundw
      case rel => exact ⟨j + 1, by omega, by go_num, by rw [HTS.out, encs_append, encs_one, ← List.append_assoc]; exact HO4.out, HB9.out⟩
      case measure => simp [intOf]; omega
    · have ej : j = l.length := by omega
      rw [ej, List.take_length] at hownr
      have HOW := Lib.hid hownr
      clear hownr
      go_wp2_with fail
      go_ret
      exact ⟨_, rfl, by simpa using HOW.out, hbr⟩
theorem appItem_all : ∀ N, AppItemAll N := by
  intro N
  induction N with
  | zero => intro t _ _ _ _ _ h; have := cnt_pos t; omega
  | succ N ih =>
    intro t base v iv xs w hN hg hlo hv hown hb hl
    obtain ⟨k, n, s, l⟩ := t
    rw [IsIt] at hv
    obtain ⟨a, c, rfl, hk, hn, hs, hll, hal⟩ := hv
    rw [cnt_mk] at hN
    rw [good_mk, Bool.and_eq_true] at hg
    have hle := enc_length hg.1
    have hf := hg.1
    simp only [form, Bool.or_eq_true, Bool.and_eq_true, beq_iff_eq] at hf
    simp only [It.long, Bool.or_eq_false_iff] at hlo
    rcases hf with (⟨⟨rfl, a2⟩, a3⟩ | ⟨⟨rfl, a2⟩, a3⟩) | ⟨⟨rfl, a2⟩, a3⟩
    · have : l = [] := List.eq_nil_of_length_eq_zero a3
      subst this
      have he : (It.mk 1 n s []).enc = 1 :: cntB (foldN n) := by simp [It.enc]
      rw [he] at hl ⊢
      simp only [List.length_cons] at hl
      exact appItem_num base v xs n s a c w hn a2 hown hb (by omega)
    · have : l = [] := List.eq_nil_of_length_eq_zero a3
      subst this
      have he : (It.mk 2 n s []).enc = 2 :: (cntB s.size ++ s.data.toList) := by simp [It.enc]
      rw [he] at hl ⊢
      simp only [List.length_cons] at hl
      exact appItem_text base v xs n s a c w a2 (by have := hlo.1; simp at this; omega) hown hb (by omega)
    · have he : (It.mk 3 n s l).enc = 3 :: (cntB l.length ++ encs l) := by simp [It.enc]
      have ho : own 3 n s l.length = 2 + dgs l.length := by simp [own]
      rw [hle, ho] at hl
      rw [he]
      exact appItem_list N ih base v xs n s l a c w a2 a3 (by omega) hg.2 hlo.2 hal hown hb (by omega) (by simp only [maxLen] at hll; omega)
end Go.Proofs.YtebacdegjmcnlaaGreat
