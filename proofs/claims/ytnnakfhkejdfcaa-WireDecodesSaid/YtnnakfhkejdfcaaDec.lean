import Derived.Test.YtnnakfhkejdfcaaList
import Derived.Recover
namespace Go.Proofs.Ytnnakfhkejdfcaa
open Go.RowKit Pl
set_option linter.unusedVariables false

theorem ta56 (w : World) : (Instr.typeAssert (.iface 56 (.agg #[.int .i64 4])) 20 56 true).run Try.prog w = .ok (.tuple #[.agg #[.int .i64 4], .bool true]) w := by kernel_rfl

set_option maxRecDepth 20000 in
theorem errnoOf_any (w : World) : Calls Try.prog 19 #[.iface 56 (.agg #[.int .i64 4])] w (RetBelow (.int .i64 4) w) := by
  have t1 := ta56
  go_enter Try.func19, Try.ntmps19
  go_wp2_with fail
  go_ret
  exact ⟨rfl, (Below.refl _ _).alloc (Nat.le_refl _) _⟩

def zeroItem : Array Value := #[.int .i64 0, .int .i64 0, .string ⟨#[]⟩, .slice none 0 0]

def Caught (B p q : Nat) (older : List PanicEntry) (w : World) (e : Ending) (u' : FrameMode) (w' : World) : Prop :=
  e = .returned (.tuple #[]) ∧ u' = .panicking ({ v := .iface 56 (.agg #[.int .i64 4]), recovered := true } :: older) ∧ w'.heap[p]? = some (.cells zeroItem 26 (0, 0)) ∧ w'.heap[q]? = some (.cells #[.int .i64 4] 27 (0, 0)) ∧ Below B w w'

set_option maxRecDepth 20000 in
theorem catch_panicking (B p q : Nat) (a0 a1 a2 a3 b0 : Value) (older : List PanicEntry) (w : World) (hp : w.heap[p]? = some (.cells #[a0, a1, a2, a3] 26 (0, 0))) (hq : w.heap[q]? = some (.cells #[b0] 27 (0, 0))) (hBp : B ≤ p) (hBq : B ≤ q) (hne : p ≠ q) (hB : B ≤ w.heap.size) :
    CallsD Try.prog 18 #[.pointer (some ⟨p, 0, none⟩), .pointer (some ⟨q, 0, none⟩)] (.panicking ({ v := .iface 56 (.agg #[.int .i64 4]), recovered := false } :: older)) w (Caught B p q older w) := by
  refine callsD_of_wpS Try.func18 rfl fun c₀ cs hu => ?_
  apply wpS_seq
  apply wpS_region
  simp [wpOpsS, go_sem, recoverD, hu, Try.ntmps18, Exit.thenS]
  refine wpS_of_wp ?_
  rw [show (#[Value.pointer (some ⟨p, 0, none⟩), Value.pointer (some ⟨q, 0, none⟩)] ++ ((Array.replicate 7 undef).setIfInBounds 1 (Value.iface 56 (Value.agg #[Value.int IntKind.i64 4]))).setIfInBounds 0 (Value.iface 56 (Value.agg #[Value.int IntKind.i64 4]))) =
    #[Value.pointer (some ⟨p, 0, none⟩), Value.pointer (some ⟨q, 0, none⟩), Value.iface 56 (Value.agg #[Value.int IntKind.i64 4]), Value.iface 56 (Value.agg #[Value.int IntKind.i64 4]), undef, undef, undef, undef, undef] from rfl]
  go_wp2_with fail
  refine (errnoOf_any _).mono ?_
  rintro e w1 ⟨rfl, hb1⟩
  have hp1 : w1.heap[p]? = some (.cells #[a0, a1, a2, a3] 26 (0, 0)) := (hb1.block p (Array.getElem?_eq_some_iff.1 hp).1).trans hp
  have hq1 : w1.heap[q]? = some (.cells #[b0] 27 (0, 0)) := (hb1.block q (Array.getElem?_eq_some_iff.1 hq).1).trans hq
  obtain ⟨r0, r1, r2, r3, z0, z1, z2, z3⟩ := row4 hp1
  have s0 : w1.cell? ⟨q, 0, none⟩ = some b0 := cell_of_row w1 q 0 _ _ _ hq1
  have y0 : w1.frozen? ⟨q, 0, none⟩ = false := by simp [World.frozen?, hq1]
  have hbB := hb1.mono hB
  have HB := Lib.hid hbB
  have HP := Lib.hid hp1
  have HQ := Lib.hid hq1
  clear hb1 hbB hp1 hq1 hp hq hu
  go_wp2_with fail
  refine ⟨rfl, _, rfl, .tuple #[], by simp [results, Try.results18], rfl, rfl, ?_, ?_, ?_⟩
  · rw [Below.heap_setCell _ _ _ _ hne]
    have := heap_set _ p 3 (.slice none 0 0) _ _ (heap_set _ p 2 (.string ⟨#[]⟩) _ _ (heap_set _ p 1 (.int .i64 0) _ _ (heap_set w1 p 0 (.int .i64 0) _ _ HP.out)))
    exact this
  · have h1 : ((((w1.setCell ⟨p, 0, none⟩ (.int .i64 0)).setCell ⟨p, 1, none⟩ (.int .i64 0)).setCell ⟨p, 2, none⟩ (.string ⟨#[]⟩)).setCell ⟨p, 3, none⟩ (.slice none 0 0)).heap[q]? = some (.cells #[b0] 27 (0, 0)) := by
      rw [Below.heap_setCell _ _ _ _ (Ne.symm hne), Below.heap_setCell _ _ _ _ (Ne.symm hne), Below.heap_setCell _ _ _ _ (Ne.symm hne), Below.heap_setCell _ _ _ _ (Ne.symm hne)]
      exact HQ.out
    exact heap_set _ q 0 (.int .i64 4) _ _ h1
  · exact ((((HB.out.setCell hBp _).setCell hBp _).setCell hBp _).setCell hBp _).setCell hBq _

set_option maxRecDepth 20000 in
theorem catch_idle (p q : Value) (w : World) : CallsD Try.prog 18 #[p, q] .returning w fun e u' w' => e = .returned (.tuple #[]) ∧ u' = .returning ∧ w = w' := by
  refine callsD_of_wpS Try.func18 rfl fun c₀ cs hu => ?_
  apply wpS_seq
  apply wpS_region
  simp [wpOpsS, go_sem, recoverD, hu, Try.ntmps18, Exit.thenS]
  refine wpS_of_wp ?_
  rw [show (#[p, q] ++ ((Array.replicate 7 undef).setIfInBounds 1 Value.nilIface).setIfInBounds 0 Value.nilIface) =
    #[p, q, Value.nilIface, Value.nilIface, undef, undef, undef, undef, undef] from rfl]
  go_wp2_with fail
  cases c₀
  simp_all [bodyPostS, results, Try.results18]

def DecPost (bs : List UInt8) (w : World) (e : Ending) (w' : World) : Prop :=
  Below w.heap.size w w' ∧ (∀ t, dec bs = some t → ∃ v, e = .returned (.tuple #[v, .int .i64 0]) ∧ IsIt w' (NewB w w') t v) ∧ (dec bs = none → e = .returned (.tuple #[.agg zeroItem, .int .i64 4]))

set_option maxRecDepth 20000 in
theorem fin_no (g n : Nat) (A : Option Addr) (cap : Nat) (left : Int) (w : World) (h : w.heap[g]? = some (.cells #[.slice A n cap, .int .i64 left] 45 (0, 0))) (hn : (0 : Int) < n) : Calls Try.prog 22 #[.pointer (some ⟨g, 0, none⟩)] w (fun e w' => e = .panicked RefPanic ∧ w = w') := by
  have c0 : w.cell? ⟨g, 0, none⟩ = some (.slice A n cap) := cell_of_row w g 0 _ _ _ h
  clear h
  go_enter Try.func22, Try.ntmps22
  go_wp2_with (go_at_call 26; refine (refuse_any _ _).mono ?_; rintro e w' ⟨rfl, rfl⟩)
  exact ⟨rfl, rfl, rfl⟩
set_option maxRecDepth 20000 in
theorem fin_yes (g : Nat) (A : Option Addr) (cap : Nat) (left : Int) (w : World) (h : w.heap[g]? = some (.cells #[.slice A 0 cap, .int .i64 left] 45 (0, 0))) : Calls Try.prog 22 #[.pointer (some ⟨g, 0, none⟩)] w (fun e w' => e = .returned (.tuple #[]) ∧ w = w') := by
  have c0 : w.cell? ⟨g, 0, none⟩ = some (.slice A 0 cap) := cell_of_row w g 0 _ _ _ h
  clear h
  go_enter Try.func22, Try.ntmps22
  go_wp2_with fail
  go_end0
  exact ⟨rfl, rfl⟩

/-- the door: the panic is caught, and none is told -/
theorem dec_catch {bs : List UInt8} {w w2 : World} {T : Array Value} {a0 a1 a2 a3 b0 : Value} (h2 : T.getD 2 undef = .pointer (some ⟨w.heap.size, 0, none⟩)) (h3 : T.getD 3 undef = .pointer (some ⟨w.heap.size + 1, 0, none⟩))
    (hp : w2.heap[w.heap.size]? = some (.cells #[a0, a1, a2, a3] 26 (0, 0))) (hq : w2.heap[w.heap.size + 1]? = some (.cells #[b0] 27 (0, 0))) (hb : Below w.heap.size w w2) (hd : dec bs = none) :
    bodyPostD Try.prog Try.f8 (DecPost bs w) (Exit.panic RefPanic) { tmps := T, defers := [{ target := Target.fn (Fn.func 18) #[.pointer (some ⟨w.heap.size, 0, none⟩), .pointer (some ⟨w.heap.size + 1, 0, none⟩)], args := #[] }] } w2 := by
  refine leaves_cons (f := 18) (args := #[.pointer (some ⟨w.heap.size, 0, none⟩), .pointer (some ⟨w.heap.size + 1, 0, none⟩)]) (by simp) (by simp [go_sem]) ?_
  refine (catch_panicking w.heap.size w.heap.size (w.heap.size + 1) a0 a1 a2 a3 b0 [] w2 hp hq (Nat.le_refl _) (by omega) (by omega) hb.size).mono ?_
  rintro e u' w3 ⟨rfl, rfl, hp3, hq3, hb3⟩
  obtain ⟨r0, r1, r2, r3, _⟩ := row4 hp3
  simp only [Array.getD_eq_getD_getElem?] at h2 h3
  have s0 : w3.cell? ⟨w.heap.size + 1, 0, none⟩ = some (.int .i64 4) := cell_of_row w3 _ 0 _ _ _ hq3
  refine ⟨.tuple #[.agg zeroItem, .int .i64 4], ?_, hb.trans hb3, fun t ht => (by rw [hd] at ht; cases ht), fun _ => rfl⟩
  simp [results, Try.results8, go_sem, h2, h3, r0, r1, r2, r3, s0, zeroItem]

set_option maxRecDepth 20000 in
theorem decode_any (bs : List UInt8) (A : Option Addr) (n cap : Nat) (w : World) (hb : BytesAt w w.heap.size A bs) (hn : bs.length = n) (hc : n ≤ cap) (hcm : cap ≤ 9223372036854775807) : Calls Try.prog 8 #[.slice A n cap] w (DecPost bs w) := by
  have hmf : ∀ (fn : Fn) (first cap : Array Value) (w : World), (Instr.makeFunc fn first cap).run Try.prog w = .ok (.func fn first cap) w := fun _ _ _ _ => rfl
  have HB := Lib.hid hb
  have HN := Lib.hid hn
  clear hb hn
  go_enter_defers Try.func8, Try.ntmps8
  go_wp2_with fail
  have hsz0 : (((w.alloc (.cells zeroItem 26)).alloc (.cells #[.int .i64 0] 27)).alloc (.cells #[.slice A n cap, .int .i64 4096] 45)).heap.size = w.heap.size + 1 + 1 + 1 := by simp
  have hpW : (((w.alloc (.cells zeroItem 26)).alloc (.cells #[.int .i64 0] 27)).alloc (.cells #[.slice A n cap, .int .i64 4096] 45)).heap[w.heap.size]? = some (.cells zeroItem 26 (0, 0)) := by
    rw [Below.heap_alloc _ _ _ (by simp; omega), Below.heap_alloc _ _ _ (by simp)]; exact heap_alloc_new _ _
  have hqW : (((w.alloc (.cells zeroItem 26)).alloc (.cells #[.int .i64 0] 27)).alloc (.cells #[.slice A n cap, .int .i64 4096] 45)).heap[w.heap.size + 1]? = some (.cells #[.int .i64 0] 27 (0, 0)) := by
    rw [Below.heap_alloc _ _ _ (by simp), show w.heap.size + 1 = (w.alloc (.cells zeroItem 26)).heap.size from by simp]; exact heap_alloc_new _ _
  have hgW : (((w.alloc (.cells zeroItem 26)).alloc (.cells #[.int .i64 0] 27)).alloc (.cells #[.slice A n cap, .int .i64 4096] 45)).heap[w.heap.size + 1 + 1]? = some (.cells #[.slice A n cap, .int .i64 4096] 45 (0, 0)) := by
    rw [show w.heap.size + 1 + 1 = ((w.alloc (.cells zeroItem 26)).alloc (.cells #[.int .i64 0] 27)).heap.size from by simp]; exact heap_alloc_new _ _
  have hbW : Below w.heap.size w (((w.alloc (.cells zeroItem 26)).alloc (.cells #[.int .i64 0] 27)).alloc (.cells #[.slice A n cap, .int .i64 4096] 45)) := (((Below.refl _ _).alloc (Nat.le_refl _) _).alloc (by simp) _).alloc (by simp; omega) _
  change Calls Try.prog 20 _ (((w.alloc (.cells zeroItem 26)).alloc (.cells #[.int .i64 0] 27)).alloc (.cells #[.slice A n cap, .int .i64 4096] 45)) _
  generalize ((w.alloc (.cells zeroItem 26)).alloc (.cells #[.int .i64 0] 27)).alloc (.cells #[.slice A n cap, .int .i64 4096] 45) = W at *
  have hrW : RSt W (w.heap.size + 1 + 1) bs 4096 := ⟨A, cap, by rw [HN.out]; exact hgW, by rw [HN.out]; exact hc, hcm, fun hne => by
    obtain ⟨b, off, e1, e2, e3⟩ := HB.out hne
    exact ⟨b, off, e1, by omega, fun j u hu => (hbW.cell (p := ⟨b, off + j, none⟩) e2).trans (e3 j u hu)⟩⟩
  refine (reserve_yes _ bs 4096 1 W hrW (by omega) (by omega)).mono ?_
  rintro e w1 ⟨rfl, hr1, hg1⟩
  have hp1 : w1.heap[w.heap.size]? = some (.cells zeroItem 26 (0, 0)) := (hg1.block _ (by omega) (by simp; omega)).trans hpW
  have hq1 : w1.heap[w.heap.size + 1]? = some (.cells #[.int .i64 0] 27 (0, 0)) := (hg1.block _ (by omega) (by simp)).trans hqW
  have hb1 : Below w.heap.size w w1 := hbW.trans (below_of_grown w.heap.size hg1 (by omega) (by omega))
  have hs1 : w.heap.size + 1 + 1 + 1 ≤ w1.heap.size := by have := hg1.size; omega
  have HP1 := Lib.hid hp1
  have HQ1 := Lib.hid hq1
  have HB1 := Lib.hid hb1
  have HR1 := Lib.hid hr1
  clear hp1 hq1 hb1 hr1 hg1 hrW hbW hgW hqW hpW hsz0
  go_wp2_with fail
  refine (item_all 12 _ bs 4095 1 w1 HR1.out (by omega) (by omega) (by omega)).mono ?_
  rintro e w2 ⟨hy, hn, hg2⟩
  have hp2 : w2.heap[w.heap.size]? = some (.cells zeroItem 26 (0, 0)) := (hg2.block _ (by omega) (by simp; omega)).trans HP1.out
  have hq2 : w2.heap[w.heap.size + 1]? = some (.cells #[.int .i64 0] 27 (0, 0)) := (hg2.block _ (by omega) (by simp)).trans HQ1.out
  have hb2 : Below w.heap.size w w2 := HB1.out.trans (below_of_grown w.heap.size hg2 (by omega) (by omega))
  have hs2 : w1.heap.size ≤ w2.heap.size := hg2.size
  cases hp : pit 12 4095 bs with
  | none =>
    obtain rfl := hn hp
    exact dec_catch rfl rfl hp2 hq2 hb2 (by rw [dec, hp])
  | some x =>
    obtain ⟨t, r, l⟩ := x
    obtain ⟨v, rfl, hv, hr2⟩ := hy t r l hp
    have hv5 := hv
    obtain ⟨k, m, s, tl⟩ := t
    rw [IsIt] at hv5
    obtain ⟨a, c, rfl, _⟩ := hv5
    have hrow := row4 hp2
    obtain ⟨r0, r1, r2, r3, q0, q1, q2, q3⟩ := hrow
    have HP := Lib.hid hp
    have HV := Lib.hid hv
    have HR2 := Lib.hid hr2
    have HP2 := Lib.hid hp2
    have HQ2 := Lib.hid hq2
    have HB2 := Lib.hid hb2
    clear hy hn hp hv hr2 hp2 hq2 hb2 hg2
    go_wp2_with fail
    have hp3 := heap_set _ w.heap.size 3 (.slice a tl.length c) _ _ (heap_set _ w.heap.size 2 (.string s) _ _ (heap_set _ w.heap.size 1 (.int .i64 m) _ _ (heap_set w2 w.heap.size 0 (.int .i64 k) _ _ HP2.out)))
    have hfar : ∀ q, q ≠ w.heap.size → ((((w2.setCell ⟨w.heap.size, 0, none⟩ (.int .i64 k)).setCell ⟨w.heap.size, 1, none⟩ (.int .i64 m)).setCell ⟨w.heap.size, 2, none⟩ (.string s)).setCell ⟨w.heap.size, 3, none⟩ (.slice a tl.length c)).heap[q]? = w2.heap[q]? := fun q hq => by
      rw [Below.heap_setCell _ _ _ _ hq, Below.heap_setCell _ _ _ _ hq, Below.heap_setCell _ _ _ _ hq, Below.heap_setCell _ _ _ _ hq]
    have hsz3 : ((((w2.setCell ⟨w.heap.size, 0, none⟩ (.int .i64 k)).setCell ⟨w.heap.size, 1, none⟩ (.int .i64 m)).setCell ⟨w.heap.size, 2, none⟩ (.string s)).setCell ⟨w.heap.size, 3, none⟩ (.slice a tl.length c)).heap.size = w2.heap.size := by simp
    have hb3 : Below w.heap.size w ((((w2.setCell ⟨w.heap.size, 0, none⟩ (.int .i64 k)).setCell ⟨w.heap.size, 1, none⟩ (.int .i64 m)).setCell ⟨w.heap.size, 2, none⟩ (.string s)).setCell ⟨w.heap.size, 3, none⟩ (.slice a tl.length c)) :=
      (((HB2.out.setCell (Nat.le_refl _) _).setCell (Nat.le_refl _) _).setCell (Nat.le_refl _) _).setCell (Nat.le_refl _) _
    generalize (((w2.setCell ⟨w.heap.size, 0, none⟩ (.int .i64 k)).setCell ⟨w.heap.size, 1, none⟩ (.int .i64 m)).setCell ⟨w.heap.size, 2, none⟩ (.string s)).setCell ⟨w.heap.size, 3, none⟩ (.slice a tl.length c) = w3 at *
    have hp3' : w3.heap[w.heap.size]? = some (.cells #[.int .i64 k, .int .i64 m, .string s, .slice a tl.length c] 26 (0, 0)) := hp3
    have hq3 : w3.heap[w.heap.size + 1]? = some (.cells #[.int .i64 0] 27 (0, 0)) := (hfar _ (by omega)).trans HQ2.out
    obtain ⟨A3, cap3, hg3, _⟩ := HR2.out
    have hg3' := (hfar (w.heap.size + 1 + 1) (by omega)).trans hg3
    by_cases hre : r = []
    · have hd : dec bs = some (.mk k m s tl) := by rw [dec, HP.out, hre]; rfl
      rw [hre] at hg3'
      refine (fin_yes _ A3 cap3 l w3 hg3').mono ?_
      rintro e w4 ⟨rfl, rfl⟩
      obtain ⟨r0, r1, r2, r3, q0, q1, q2, q3⟩ := row4 hp3'
      have s0 : w3.cell? ⟨w.heap.size + 1, 0, none⟩ = some (.int .i64 0) := cell_of_row w3 _ 0 _ _ _ hq3
      have y0 : w3.frozen? ⟨w.heap.size + 1, 0, none⟩ = false := by simp [World.frozen?, hq3]
      have hvv : IsIt w3 (NewB w1 w2) (.mk k m s tl) (.agg #[.int .i64 k, .int .i64 m, .string s, .slice a tl.length c]) := IsIt.keep (fun q hq => hfar q (by have := hq.1; omega)) _ HV.out
      have HP3 := Lib.hid hp3'
      have HQ3 := Lib.hid hq3
      have HVV := Lib.hid hvv
      have HD := Lib.hid hd
      have HB3 := Lib.hid hb3
      clear hvv hd hb3 hp3 hp3' hq3 hg3 hg3' hfar hre
      go_wp2_with fail
      have hpf := heap_set _ w.heap.size 3 (.slice a tl.length c) _ _ (heap_set _ w.heap.size 2 (.string s) _ _ (heap_set _ w.heap.size 1 (.int .i64 m) _ _ (heap_set w3 w.heap.size 0 (.int .i64 k) _ _ HP3.out)))
      have hfar : ∀ q, q ≠ w.heap.size → q ≠ w.heap.size + 1 → (((((w3.setCell ⟨w.heap.size, 0, none⟩ (.int .i64 k)).setCell ⟨w.heap.size, 1, none⟩ (.int .i64 m)).setCell ⟨w.heap.size, 2, none⟩ (.string s)).setCell ⟨w.heap.size, 3, none⟩ (.slice a tl.length c)).setCell ⟨w.heap.size + 1, 0, none⟩ (.int .i64 0)).heap[q]? = w3.heap[q]? := fun q hq hq' => by
        rw [Below.heap_setCell _ _ _ _ hq', Below.heap_setCell _ _ _ _ hq, Below.heap_setCell _ _ _ _ hq, Below.heap_setCell _ _ _ _ hq, Below.heap_setCell _ _ _ _ hq]
      have hbf : Below w.heap.size w (((((w3.setCell ⟨w.heap.size, 0, none⟩ (.int .i64 k)).setCell ⟨w.heap.size, 1, none⟩ (.int .i64 m)).setCell ⟨w.heap.size, 2, none⟩ (.string s)).setCell ⟨w.heap.size, 3, none⟩ (.slice a tl.length c)).setCell ⟨w.heap.size + 1, 0, none⟩ (.int .i64 0)) :=
        ((((HB3.out.setCell (Nat.le_refl _) _).setCell (Nat.le_refl _) _).setCell (Nat.le_refl _) _).setCell (Nat.le_refl _) _).setCell (by simp) _
      have hqf : (((((w3.setCell ⟨w.heap.size, 0, none⟩ (.int .i64 k)).setCell ⟨w.heap.size, 1, none⟩ (.int .i64 m)).setCell ⟨w.heap.size, 2, none⟩ (.string s)).setCell ⟨w.heap.size, 3, none⟩ (.slice a tl.length c)).setCell ⟨w.heap.size + 1, 0, none⟩ (.int .i64 0)).heap[w.heap.size + 1]? = some (.cells #[.int .i64 0] 27 (0, 0)) := by
        refine heap_set _ (w.heap.size + 1) 0 (.int .i64 0) #[.int .i64 0] _ ?_
        rw [Below.heap_setCell _ _ _ _ (by simp), Below.heap_setCell _ _ _ _ (by simp), Below.heap_setCell _ _ _ _ (by simp), Below.heap_setCell _ _ _ _ (by simp)]
        exact HQ3.out
      have hpf' := (Below.heap_setCell _ ⟨w.heap.size + 1, 0, none⟩ (.int .i64 0) w.heap.size (by simp)).trans hpf
      have hszf : (((((w3.setCell ⟨w.heap.size, 0, none⟩ (.int .i64 k)).setCell ⟨w.heap.size, 1, none⟩ (.int .i64 m)).setCell ⟨w.heap.size, 2, none⟩ (.string s)).setCell ⟨w.heap.size, 3, none⟩ (.slice a tl.length c)).setCell ⟨w.heap.size + 1, 0, none⟩ (.int .i64 0)).heap.size = w3.heap.size := by simp
      generalize ((((w3.setCell ⟨w.heap.size, 0, none⟩ (.int .i64 k)).setCell ⟨w.heap.size, 1, none⟩ (.int .i64 m)).setCell ⟨w.heap.size, 2, none⟩ (.string s)).setCell ⟨w.heap.size, 3, none⟩ (.slice a tl.length c)).setCell ⟨w.heap.size + 1, 0, none⟩ (.int .i64 0) = w5 at *
      have hpf'' : w5.heap[w.heap.size]? = some (.cells #[.int .i64 k, .int .i64 m, .string s, .slice a tl.length c] 26 (0, 0)) := hpf'
      refine leaves_cons (f := 18) (args := #[.pointer (some ⟨w.heap.size, 0, none⟩), .pointer (some ⟨w.heap.size + 1, 0, none⟩)]) (by simp) (by simp [go_sem]) ?_
      refine (catch_idle _ _ w5).mono ?_
      rintro e u' w6 ⟨rfl, rfl, rfl⟩
      obtain ⟨r0', r1', r2', r3', _⟩ := row4 hpf''
      have s0' : w5.cell? ⟨w.heap.size + 1, 0, none⟩ = some (.int .i64 0) := cell_of_row w5 _ 0 _ _ _ hqf
      refine ⟨.tuple #[.agg #[.int .i64 k, .int .i64 m, .string s, .slice a tl.length c], .int .i64 0], ?_, hbf, fun t ht => ?_, fun ht => (by rw [HD.out] at ht; cases ht)⟩
      · simp [results, Try.results8, go_sem, r0', r1', r2', r3', s0']
      · rw [HD.out] at ht
        simp only [Option.some.injEq] at ht
        subst ht
        exact ⟨_, rfl, IsIt.mono (fun q hq => ⟨by have := hq.1; omega, by have := hq.2; omega⟩) _ (IsIt.keep (fun q hq => hfar q (by have := hq.1; omega) (by have := hq.1; omega)) _ HVV.out)⟩
    · have hd : dec bs = none := by rw [dec, HP.out]; simp only []; rw [if_neg hre]
      have hpos : (0 : Int) < (r.length : Int) := by
        cases r with
        | nil => exact absurd rfl hre
        | cons x y => simp
      refine (fin_no _ r.length A3 cap3 l w3 hg3' hpos).mono ?_
      rintro e w4 ⟨rfl, rfl⟩
      exact dec_catch rfl rfl hp3' hq3 hb3 hd
end Go.Proofs.Ytnnakfhkejdfcaa
