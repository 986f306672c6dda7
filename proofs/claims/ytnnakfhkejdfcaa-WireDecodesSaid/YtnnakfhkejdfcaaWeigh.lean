import Derived.Test.YtnnakfhkejdfcaaMean
import Derived.StillTailTactics
namespace Go.Proofs.Ytnnakfhkejdfcaa
open Go.RowKit
set_option linter.unusedVariables false

def Tal (w : World) (g : Nat) (i b : Int) (d : Bool) : Prop := w.heap[g]? = some (.cells #[.int .i64 i, .int .i64 b, .bool d] 66 (0, 0))
theorem Tal.c0 {w : World} {g : Nat} {i b : Int} {d : Bool} (h : Tal w g i b d) : w.cell? ⟨g, 0, none⟩ = some (.int .i64 i) := cell_of_row w g 0 _ _ _ h
theorem Tal.c1 {w : World} {g : Nat} {i b : Int} {d : Bool} (h : Tal w g i b d) : w.cell? ⟨g, 1, none⟩ = some (.int .i64 b) := cell_of_row w g 1 _ _ _ h
theorem Tal.c2 {w : World} {g : Nat} {i b : Int} {d : Bool} (h : Tal w g i b d) : w.cell? ⟨g, 2, none⟩ = some (.bool d) := cell_of_row w g 2 _ _ _ h
theorem Tal.fr {w : World} {g : Nat} {i b : Int} {d : Bool} (h : Tal w g i b d) (k : Nat) : w.frozen? ⟨g, k, none⟩ = false := by
  unfold Tal at h; simp [World.frozen?, h]

theorem heap_set (w : World) (g k : Nat) (v : Value) (cs : Array Value) (t : TypeId) (h : w.heap[g]? = some (.cells cs t (0, 0))) :
    (w.setCell ⟨g, k, none⟩ v).heap[g]? = some (.cells (cs.setIfInBounds k v) t (0, 0)) := by
  simp [World.setCell, Array.getElem?_modify, h]
theorem grownBy_set (w : World) (g k : Nat) (v : Value) : w.grownBy (w.setCell ⟨g, k, none⟩ v) (some g) :=
  ⟨rfl, rfl, rfl, by simp [World.setCell], fun j _ hne => Below.heap_setCell w _ v j (fun e => hne (by rw [e]))⟩
theorem grownBy_drew {w w' : World} {r : Option Nat} (h : w.grownBy w' r) : w.grownBy w'.drew r := ⟨h.os, h.tape, h.output, h.size, h.block⟩
theorem grownBy_trans {a b c : World} {r : Option Nat} (h : a.grownBy b r) (k : b.grownBy c r) : a.grownBy c r :=
  ⟨k.os.trans h.os, k.tape.trans h.tape, k.output.trans h.output, Nat.le_trans h.size k.size, fun i hi hne => (k.block i (Nat.lt_of_lt_of_le hi h.size) hne).trans (h.block i hi hne)⟩
theorem grownBy_below {a b : World} (h : Below a.heap.size a b) (r : Option Nat) : a.grownBy b r := ⟨h.os, h.tape, h.output, h.size, fun i hi _ => h.block i hi⟩
theorem Tal.set0 {w : World} {g : Nat} {i b : Int} {d : Bool} (h : Tal w g i b d) (i' : Int) : Tal (w.setCell ⟨g, 0, none⟩ (.int .i64 i')) g i' b d := heap_set w g 0 _ _ _ h
theorem Tal.set1 {w : World} {g : Nat} {i b : Int} {d : Bool} (h : Tal w g i b d) (b' : Int) : Tal (w.setCell ⟨g, 1, none⟩ (.int .i64 b')) g i b' d := heap_set w g 1 _ _ _ h
theorem Tal.set2 {w : World} {g : Nat} {i b : Int} {d : Bool} (h : Tal w g i b d) (d' : Bool) : Tal (w.setCell ⟨g, 2, none⟩ (.bool d')) g i b d' := heap_set w g 2 _ _ _ h

def WeighPost (g : Nat) (i b : Int) (d : Bool) (w : World) (e : Ending) (w' : World) : Prop := e = .returned (.tuple #[]) ∧ Tal w' g i b d ∧ w.grownBy w' (some g)

theorem foldN_lt' (n : Int) (h0 : -9223372036854775808 ≤ n) (h1 : n ≤ 9223372036854775807) : 0 ≤ (Pl.foldN n : Int) ∧ (Pl.foldN n : Int) ≤ 18446744073709551615 := ⟨by omega, foldN_lt n h0 h1⟩

theorem ta22 (n : Int) (w : World) : (Instr.typeAssert (.iface 2 (.int .i64 n)) 20 2 true).run Try.prog w = .ok (.tuple #[.int .i64 n, .bool true]) w := by kernel_rfl
theorem ta92 (s : ByteArray) (w : World) : (Instr.typeAssert (.iface 9 (.string s)) 20 2 true).run Try.prog w = .ok (.tuple #[.int .i64 0, .bool false]) w := by kernel_rfl
theorem ta99 (s : ByteArray) (w : World) : (Instr.typeAssert (.iface 9 (.string s)) 20 9 true).run Try.prog w = .ok (.tuple #[.string s, .bool true]) w := by kernel_rfl
theorem ta242 (a : Option Addr) (m c : Nat) (w : World) : (Instr.typeAssert (.iface 24 (.slice a m c)) 20 2 true).run Try.prog w = .ok (.tuple #[.int .i64 0, .bool false]) w := by kernel_rfl
theorem ta249 (a : Option Addr) (m c : Nat) (w : World) : (Instr.typeAssert (.iface 24 (.slice a m c)) 20 9 true).run Try.prog w = .ok (.tuple #[.string ⟨#[]⟩, .bool false]) w := by kernel_rfl
theorem ta2424 (a : Option Addr) (m c : Nat) (w : World) : (Instr.typeAssert (.iface 24 (.slice a m c)) 20 24 true).run Try.prog w = .ok (.tuple #[.slice a m c, .bool true]) w := by kernel_rfl
theorem tan2 (w : World) : (Instr.typeAssert .nilIface 20 2 true).run Try.prog w = .ok (.tuple #[.int .i64 0, .bool false]) w := by kernel_rfl
theorem tan9 (w : World) : (Instr.typeAssert .nilIface 20 9 true).run Try.prog w = .ok (.tuple #[.string ⟨#[]⟩, .bool false]) w := by kernel_rfl
theorem tan24 (w : World) : (Instr.typeAssert .nilIface 20 24 true).run Try.prog w = .ok (.tuple #[.slice none 0 0, .bool false]) w := by kernel_rfl

set_option maxRecDepth 20000 in
theorem weigh_num (g : Nat) (i b : Int) (d : Bool) (n : Int) (w : World) (ht : Tal w g i b d) (hb : 0 ≤ b ∧ b ≤ 1099511627776) (h0 : -9223372036854775808 ≤ n) (h1 : n ≤ 9223372036854775807) :
    Calls Try.prog 39 #[.pointer (some ⟨g, 0, none⟩), .iface 2 (.int .i64 n)] w (WeighPost g i (b + (1 + (1 + Pl.dgs (Pl.foldN n)))) d w) := by
  have c0 := ht.c0
  have c1 := ht.c1
  have f1 := ht.fr 1
  have hd := Pl.dgs_le (Pl.foldN n)
  have hf := foldN_lt' n h0 h1
  have hfc : ∀ W : World, Calls Try.prog 37 #[.int .i64 n] W (fun e w' => e = .returned (.int .u64 (Pl.foldN n)) ∧ w' = W) := fun W => (fold_any n W h0 h1).mono fun _ _ h => ⟨h.1, h.2.symm⟩
  have hcc : ∀ W : World, Calls Try.prog 41 #[.int .u64 (Pl.foldN n)] W (fun e w' => e = .returned (.int .i64 (1 + Pl.dgs (Pl.foldN n))) ∧ w' = W) := fun W => (countSize_any _ W hf.1 hf.2).mono fun _ _ h => ⟨by simpa using h.1, h.2.symm⟩
  have HF := Lib.hid hfc
  clear hfc
  generalize Pl.foldN n = F at *
  have HT := Lib.hid ht
  have HC := Lib.hid hcc
  clear ht hcc
  have t1 := fun W => ta22 n W
  go_enter Try.func39, Try.ntmps39
  go_wp2_with fail
  go_still_tail 11, (by kernel_rfl)
  still_call (HF.out _)
  repeat still_step
  still_call (HC.out _)
  repeat still_step
  refine wpStill_nil ?_
  change wpList _ _ _ _ _ w.drew
  go_wp2_with fail
  go_end0
  exact ⟨rfl, HT.out.set1 _, grownBy_drew (grownBy_set _ _ _ _)⟩

set_option maxRecDepth 20000 in
theorem weigh_text (g : Nat) (i b : Int) (d : Bool) (s : ByteArray) (w : World) (ht : Tal w g i b d) (hb : 0 ≤ b ∧ b ≤ 1099511627776) (hs : s.size ≤ 140737488355328) :
    Calls Try.prog 39 #[.pointer (some ⟨g, 0, none⟩), .iface 9 (.string s)] w (WeighPost g i (b + (1 + (1 + Pl.dgs s.size) + s.size)) d w) := by
  have c0 := ht.c0
  have c1 := ht.c1
  have f1 := ht.fr 1
  have hd := Pl.dgs_le s.size
  have hcc : ∀ W : World, Calls Try.prog 41 #[.int .u64 (s.size : Nat)] W (fun e w' => e = .returned (.int .i64 (1 + Pl.dgs s.size)) ∧ w' = W) := fun W => (countSize_any _ W (by omega) (by omega)).mono fun _ _ h => ⟨by simpa using h.1, h.2.symm⟩
  have HT := Lib.hid ht
  have HC := Lib.hid hcc
  clear ht hcc
  have hw : IntKind.u64.wrap (s.size : Int) = s.size := IntWalk.u64_in _ ⟨by omega, by omega⟩
  have t1 := fun W => ta92 s W
  have t2 := fun W => ta99 s W
  go_enter Try.func39, Try.ntmps39
  go_wp2_with fail
  go_still_tail 15, (by kernel_rfl)
  still_call (HC.out _)
  repeat still_step
  refine wpStill_nil ?_
  change wpList _ _ _ _ _ w.drew
  go_wp2_with fail
  go_end0
  exact ⟨rfl, HT.out.set1 _, grownBy_drew (grownBy_set _ _ _ _)⟩

set_option maxRecDepth 20000 in
theorem weigh_list (g : Nat) (i b : Int) (d : Bool) (a : Option Addr) (m c : Nat) (w : World) (ht : Tal w g i b d) (hb : 0 ≤ b ∧ b ≤ 1099511627776) (hs : m ≤ 9223372036854775807) :
    Calls Try.prog 39 #[.pointer (some ⟨g, 0, none⟩), .iface 24 (.slice a m c)] w (WeighPost g i (b + (1 + (1 + Pl.dgs m))) d w) := by
  have c0 := ht.c0
  have c1 := ht.c1
  have f1 := ht.fr 1
  have hd := Pl.dgs_le m
  have hcc : ∀ W : World, Calls Try.prog 41 #[.int .u64 (m : Nat)] W (fun e w' => e = .returned (.int .i64 (1 + Pl.dgs m)) ∧ w' = W) := fun W => (countSize_any _ W (by omega) (by omega)).mono fun _ _ h => ⟨by simpa using h.1, h.2.symm⟩
  have HT := Lib.hid ht
  have HC := Lib.hid hcc
  clear ht hcc
  have hw : IntKind.u64.wrap (m : Int) = m := IntWalk.u64_in _ ⟨by omega, by omega⟩
  have t1 := fun W => ta242 a m c W
  have t2 := fun W => ta249 a m c W
  have t3 := fun W => ta2424 a m c W
  go_enter Try.func39, Try.ntmps39
  go_wp2_with fail
  go_still_tail 12, (by kernel_rfl)
  still_call (HC.out _)
  repeat still_step
  refine wpStill_nil ?_
  change wpList _ _ _ _ _ w.drew
  go_wp2_with fail
  go_end0
  exact ⟨rfl, HT.out.set1 _, grownBy_drew (grownBy_set _ _ _ _)⟩

set_option maxRecDepth 20000 in
theorem weigh_none (g : Nat) (i b : Int) (d : Bool) (w : World) (ht : Tal w g i b d) : Calls Try.prog 39 #[.pointer (some ⟨g, 0, none⟩), .nilIface] w (WeighPost g i b true w) := by
  have c2 := ht.c2
  have f2 := ht.fr 2
  have HT := Lib.hid ht
  clear ht
  have t1 := fun W => tan2 W
  have t2 := fun W => tan9 W
  have t3 := fun W => tan24 W
  go_enter Try.func39, Try.ntmps39
  go_wp2_with fail
  go_end0
  exact ⟨rfl, HT.out.set2 _, grownBy_set _ _ _ _⟩
end Go.Proofs.Ytnnakfhkejdfcaa
