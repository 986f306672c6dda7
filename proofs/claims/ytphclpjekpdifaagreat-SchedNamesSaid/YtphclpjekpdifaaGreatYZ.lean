import Derived.Test.YtphclpjekpdifaaGreatYQ
import Derived.Test.YtphclpjekpdifaaGreatYFc
import Derived.Test.YtphclpjekpdifaaGreatYY
import Derived.Deep.RegionWith
import Derived.Test.YtphclpjekpdifaaGreatYF
namespace Go.Proofs.YtphclpjekpdifaaGreat
set_option maxRecDepth 20000
open Go.RowKit
open PS (Tx putM dropM setM findM Nod Ten Jb kOf St)
open Go.Proofs.YtphclpjekpdifaaGreat.Nm (str)
open Go.Proofs.YtphclpjekpdifaaGreat.Vc (RetBelow fitB I64)
set_option linter.unusedVariables false
open PS (Cm row byName Rp)
def DoPost (RV : Value) (R : World → World → Prop) (w : World) (e : Ending) (w' : World) : Prop :=
  e = .returned RV ∧ ∃ X0 X3, Below w.heap.size w X0 ∧ R X0 X3 ∧ w.heap.size + 1 < X0.heap.size ∧ Fr (· = w.heap.size + 1) X3 w'
set_option maxHeartbeats 4000000 in
theorem do_no (b : Nat) (co : Int) (cS cT : ByteArray) (p q r cn : Int) (w : World)
    (HMY : Hid (∀ X, Below w.heap.size w X → Calls Tryz.prog 36 #[.agg #[.int .i64 co, .string cS, .string cT, .int .i64 p, .int .i64 q, .int .i64 r, .int .i64 cn]] X (RetBelow (.bool false) X))) :
    Calls Tryz.prog 13 #[.pointer (some ⟨b, 0, none⟩), .agg #[.int .i64 co, .string cS, .string cT, .int .i64 p, .int .i64 q, .int .i64 r, .int .i64 cn]] w (RetBelow (rpC 4 ⟨#[]⟩) w) := by
  have HBW0 := Lib.hid (below_2 w (.cells #[.int .i64 co, .string cS, .string cT, .int .i64 p, .int .i64 q, .int .i64 r, .int .i64 cn] 33) (.cells #[.int .i64 0, .string ⟨#[]⟩, .int .i64 0, .int .i64 0, .int .i64 0, .int .i64 0] 30))
  have HCX0 := Lib.hid (show ((w.alloc (.cells #[.int .i64 co, .string cS, .string cT, .int .i64 p, .int .i64 q, .int .i64 r, .int .i64 cn] 33)).alloc (.cells #[.int .i64 0, .string ⟨#[]⟩, .int .i64 0, .int .i64 0, .int .i64 0, .int .i64 0] 30)).heap[w.heap.size]? = some (.cells #[.int .i64 co, .string cS, .string cT, .int .i64 p, .int .i64 q, .int .i64 r, .int .i64 cn] 33 (0, 0)) from (Below.heap_alloc _ _ _ (by simp)).trans (heap_alloc_new w _))
  have HRX0 := Lib.hid (show ((w.alloc (.cells #[.int .i64 co, .string cS, .string cT, .int .i64 p, .int .i64 q, .int .i64 r, .int .i64 cn] 33)).alloc (.cells #[.int .i64 0, .string ⟨#[]⟩, .int .i64 0, .int .i64 0, .int .i64 0, .int .i64 0] 30)).heap[w.heap.size + 1]? = some (.cells #[.int .i64 0, .string ⟨#[]⟩, .int .i64 0, .int .i64 0, .int .i64 0, .int .i64 0] 30 (0, 0)) from by have := heap_alloc_new (w.alloc (.cells #[.int .i64 co, .string cS, .string cT, .int .i64 p, .int .i64 q, .int .i64 r, .int .i64 cn] 33)) (.cells #[.int .i64 0, .string ⟨#[]⟩, .int .i64 0, .int .i64 0, .int .i64 0, .int .i64 0] 30); rwa [show (w.alloc (.cells #[.int .i64 co, .string cS, .string cT, .int .i64 p, .int .i64 q, .int .i64 r, .int .i64 cn] 33)).heap.size = w.heap.size + 1 from by simp] at this)
  obtain ⟨p0, p1, p2, p3, p4, p5, p6, _⟩ := rowc7 HCX0.out
  have hbd : ∀ W : World, (Instr.build 30 #[(0, .int .i64 4)]).run Tryz.prog W = .ok (.agg #[.int .i64 4, .string ⟨#[]⟩, .int .i64 0, .int .i64 0, .int .i64 0, .int .i64 0]) W := fun W => run_build W 30 _ _ (by kernel_rfl)
  go_enter Tryz.func13, Tryz.ntmps13
  go_wp2_with (first | (go_at_call 36; (with_reducible refine (HMY.out _ HBW0.out).mono ?_); rintro e W0 ⟨rfl, hb1⟩; have HBW := Lib.hid (HBW0.out.trans (hb1.mono HBW0.out.size)); have HCX := Lib.hid ((hb1.block w.heap.size (by simp; omega)).trans HCX0.out); have HRX := Lib.hid ((hb1.block (w.heap.size + 1) (by simp)).trans HRX0.out); clear hb1 p0 p1 p2 p3 p4 p5 p6; obtain ⟨p0, p1, p2, p3, p4, p5, p6, _⟩ := rowc7 HCX.out; obtain ⟨x0, x1, x2, x3, x4, x5, f0, f1, f2, f3, f4, f5⟩ := rowc6 HRX.out))
  refine (show bodyPost Tryz.prog Tryz.f13 _ Exit.ret _ (wr6 W0 (w.heap.size + 1) (.int .i64 4) (.string ⟨#[]⟩) (.int .i64 0) (.int .i64 0) (.int .i64 0) (.int .i64 0)) from ?_)
  have R := wr6_row (a0 := .int .i64 4) (a1 := .string ⟨#[]⟩) (a2 := .int .i64 0) (a3 := .int .i64 0) (a4 := .int .i64 0) (a5 := .int .i64 0) HRX.out
  have FF := wr6_fr W0 (w.heap.size + 1) (.int .i64 4) (.string ⟨#[]⟩) (.int .i64 0) (.int .i64 0) (.int .i64 0) (.int .i64 0)
  generalize wr6 W0 (w.heap.size + 1) (.int .i64 4) (.string ⟨#[]⟩) (.int .i64 0) (.int .i64 0) (.int .i64 0) (.int .i64 0) = W at *
  obtain ⟨y0, y1, y2, y3, y4, y5, _⟩ := rowc6 R
  refine bodyPost_ret (v := .agg #[.int .i64 4, .string ⟨#[]⟩, .int .i64 0, .int .i64 0, .int .i64 0, .int .i64 0]) (by simp [results, Tryz.results13, go_sem, y0, y1, y2, y3, y4, y5]) rfl ⟨rfl, HBW.out.trans (FF.below HBW.out.size (fun k e => by omega))⟩
set_option maxHeartbeats 4000000 in
theorem do_1 (b : Nat) (cS cT : ByteArray) (p q r cn : Int) (E : Int) (R : World → World → Prop) (w : World)
    (HMY : Hid (∀ X, Below w.heap.size w X → Calls Tryz.prog 36 #[.agg #[.int .i64 1, .string cS, .string cT, .int .i64 p, .int .i64 q, .int .i64 r, .int .i64 cn]] X (RetBelow (.bool true) X)))
    (HC : Hid (∀ X, Below w.heap.size w X → Calls Tryz.prog 37 #[.pointer (some ⟨b, 0, none⟩), .agg #[.int .i64 1, .string cS, .string cT, .int .i64 p, .int .i64 q, .int .i64 r, .int .i64 cn]] X fun e w' => e = .returned (.int .i64 E) ∧ R X w'))
    (HFr : Hid (∀ X0 X1, R X0 X1 → (∀ k, w.heap.size ≤ k → k < X0.heap.size → X1.heap[k]? = X0.heap[k]?) ∧ X0.heap.size ≤ X1.heap.size)) :
    Calls Tryz.prog 13 #[.pointer (some ⟨b, 0, none⟩), .agg #[.int .i64 1, .string cS, .string cT, .int .i64 p, .int .i64 q, .int .i64 r, .int .i64 cn]] w (DoPost (.agg #[.int .i64 E, .string ⟨#[]⟩, .int .i64 0, .int .i64 0, .int .i64 0, .int .i64 0]) R w) := by
  have HBW0 := Lib.hid (below_2 w (.cells #[.int .i64 1, .string cS, .string cT, .int .i64 p, .int .i64 q, .int .i64 r, .int .i64 cn] 33) (.cells #[.int .i64 0, .string ⟨#[]⟩, .int .i64 0, .int .i64 0, .int .i64 0, .int .i64 0] 30))
  have HCX0 := Lib.hid (show ((w.alloc (.cells #[.int .i64 1, .string cS, .string cT, .int .i64 p, .int .i64 q, .int .i64 r, .int .i64 cn] 33)).alloc (.cells #[.int .i64 0, .string ⟨#[]⟩, .int .i64 0, .int .i64 0, .int .i64 0, .int .i64 0] 30)).heap[w.heap.size]? = some (.cells #[.int .i64 1, .string cS, .string cT, .int .i64 p, .int .i64 q, .int .i64 r, .int .i64 cn] 33 (0, 0)) from (Below.heap_alloc _ _ _ (by simp)).trans (heap_alloc_new w _))
  have HRX0 := Lib.hid (show ((w.alloc (.cells #[.int .i64 1, .string cS, .string cT, .int .i64 p, .int .i64 q, .int .i64 r, .int .i64 cn] 33)).alloc (.cells #[.int .i64 0, .string ⟨#[]⟩, .int .i64 0, .int .i64 0, .int .i64 0, .int .i64 0] 30)).heap[w.heap.size + 1]? = some (.cells #[.int .i64 0, .string ⟨#[]⟩, .int .i64 0, .int .i64 0, .int .i64 0, .int .i64 0] 30 (0, 0)) from by have := heap_alloc_new (w.alloc (.cells #[.int .i64 1, .string cS, .string cT, .int .i64 p, .int .i64 q, .int .i64 r, .int .i64 cn] 33)) (.cells #[.int .i64 0, .string ⟨#[]⟩, .int .i64 0, .int .i64 0, .int .i64 0, .int .i64 0] 30); rwa [show (w.alloc (.cells #[.int .i64 1, .string cS, .string cT, .int .i64 p, .int .i64 q, .int .i64 r, .int .i64 cn] 33)).heap.size = w.heap.size + 1 from by simp] at this)
  obtain ⟨p0, p1, p2, p3, p4, p5, p6, _⟩ := rowc7 HCX0.out
  have hbd : ∀ W : World, (Instr.build 30 #[(0, .int .i64 E)]).run Tryz.prog W = .ok (.agg #[.int .i64 E, .string ⟨#[]⟩, .int .i64 0, .int .i64 0, .int .i64 0, .int .i64 0]) W := fun W => run_build W 30 _ _ (by kernel_rfl)
  go_enter Tryz.func13, Tryz.ntmps13
  go_wp2_with (first | (go_at_call 36; (with_reducible refine (HMY.out _ HBW0.out).mono ?_); rintro e W0 ⟨rfl, hb1⟩; have HBW := Lib.hid (HBW0.out.trans (hb1.mono HBW0.out.size)); have HCX := Lib.hid ((hb1.block w.heap.size (by simp; omega)).trans HCX0.out); have HRX := Lib.hid ((hb1.block (w.heap.size + 1) (by simp)).trans HRX0.out); clear hb1 p0 p1 p2 p3 p4 p5 p6; obtain ⟨p0, p1, p2, p3, p4, p5, p6, _⟩ := rowc7 HCX.out; obtain ⟨x0, x1, x2, x3, x4, x5, f0, f1, f2, f3, f4, f5⟩ := rowc6 HRX.out) | (go_at_call 37; (with_reducible refine (HC.out _ HBW.out).mono ?_); rintro e W1 ⟨rfl, hP⟩; have HQ := Lib.hid hP; have HE := Lib.hid (HFr.out _ _ hP); have HR1 := Lib.hid ((HE.out.1 (w.heap.size + 1) (by omega) (Array.getElem?_eq_some_iff.1 HRX.out).1).trans HRX.out); clear hP p0 p1 p2 p3 p4 p5 p6 x0 x1 x2 x3 x4 x5 f0 f1 f2 f3 f4 f5; obtain ⟨x0, x1, x2, x3, x4, x5, f0, f1, f2, f3, f4, f5⟩ := rowc6 HR1.out))
  refine (show bodyPost Tryz.prog Tryz.f13 _ Exit.ret _ (wr6 W1 (w.heap.size + 1) (.int .i64 E) (.string ⟨#[]⟩) (.int .i64 0) (.int .i64 0) (.int .i64 0) (.int .i64 0)) from ?_)
  have R := wr6_row (a0 := .int .i64 E) (a1 := .string ⟨#[]⟩) (a2 := .int .i64 0) (a3 := .int .i64 0) (a4 := .int .i64 0) (a5 := .int .i64 0) HR1.out
  have FF := wr6_fr W1 (w.heap.size + 1) (.int .i64 E) (.string ⟨#[]⟩) (.int .i64 0) (.int .i64 0) (.int .i64 0) (.int .i64 0)
  generalize wr6 W1 (w.heap.size + 1) (.int .i64 E) (.string ⟨#[]⟩) (.int .i64 0) (.int .i64 0) (.int .i64 0) (.int .i64 0) = W at *
  obtain ⟨y0, y1, y2, y3, y4, y5, _⟩ := rowc6 R
  refine bodyPost_ret (v := .agg #[.int .i64 E, .string ⟨#[]⟩, .int .i64 0, .int .i64 0, .int .i64 0, .int .i64 0]) (by simp [results, Tryz.results13, go_sem, y0, y1, y2, y3, y4, y5]) rfl ⟨rfl, W0, W1, HBW.out, HQ.out, (Array.getElem?_eq_some_iff.1 HRX.out).1, FF⟩
set_option maxHeartbeats 4000000 in
theorem do_2 (b : Nat) (cS cT : ByteArray) (p q r cn : Int) (E : Int) (R : World → World → Prop) (w : World)
    (HMY : Hid (∀ X, Below w.heap.size w X → Calls Tryz.prog 36 #[.agg #[.int .i64 2, .string cS, .string cT, .int .i64 p, .int .i64 q, .int .i64 r, .int .i64 cn]] X (RetBelow (.bool true) X)))
    (HC : Hid (∀ X, Below w.heap.size w X → Calls Tryz.prog 38 #[.pointer (some ⟨b, 0, none⟩), .agg #[.int .i64 2, .string cS, .string cT, .int .i64 p, .int .i64 q, .int .i64 r, .int .i64 cn]] X fun e w' => e = .returned (.int .i64 E) ∧ R X w'))
    (HFr : Hid (∀ X0 X1, R X0 X1 → (∀ k, w.heap.size ≤ k → k < X0.heap.size → X1.heap[k]? = X0.heap[k]?) ∧ X0.heap.size ≤ X1.heap.size)) :
    Calls Tryz.prog 13 #[.pointer (some ⟨b, 0, none⟩), .agg #[.int .i64 2, .string cS, .string cT, .int .i64 p, .int .i64 q, .int .i64 r, .int .i64 cn]] w (DoPost (.agg #[.int .i64 E, .string ⟨#[]⟩, .int .i64 0, .int .i64 0, .int .i64 0, .int .i64 0]) R w) := by
  have HBW0 := Lib.hid (below_2 w (.cells #[.int .i64 2, .string cS, .string cT, .int .i64 p, .int .i64 q, .int .i64 r, .int .i64 cn] 33) (.cells #[.int .i64 0, .string ⟨#[]⟩, .int .i64 0, .int .i64 0, .int .i64 0, .int .i64 0] 30))
  have HCX0 := Lib.hid (show ((w.alloc (.cells #[.int .i64 2, .string cS, .string cT, .int .i64 p, .int .i64 q, .int .i64 r, .int .i64 cn] 33)).alloc (.cells #[.int .i64 0, .string ⟨#[]⟩, .int .i64 0, .int .i64 0, .int .i64 0, .int .i64 0] 30)).heap[w.heap.size]? = some (.cells #[.int .i64 2, .string cS, .string cT, .int .i64 p, .int .i64 q, .int .i64 r, .int .i64 cn] 33 (0, 0)) from (Below.heap_alloc _ _ _ (by simp)).trans (heap_alloc_new w _))
  have HRX0 := Lib.hid (show ((w.alloc (.cells #[.int .i64 2, .string cS, .string cT, .int .i64 p, .int .i64 q, .int .i64 r, .int .i64 cn] 33)).alloc (.cells #[.int .i64 0, .string ⟨#[]⟩, .int .i64 0, .int .i64 0, .int .i64 0, .int .i64 0] 30)).heap[w.heap.size + 1]? = some (.cells #[.int .i64 0, .string ⟨#[]⟩, .int .i64 0, .int .i64 0, .int .i64 0, .int .i64 0] 30 (0, 0)) from by have := heap_alloc_new (w.alloc (.cells #[.int .i64 2, .string cS, .string cT, .int .i64 p, .int .i64 q, .int .i64 r, .int .i64 cn] 33)) (.cells #[.int .i64 0, .string ⟨#[]⟩, .int .i64 0, .int .i64 0, .int .i64 0, .int .i64 0] 30); rwa [show (w.alloc (.cells #[.int .i64 2, .string cS, .string cT, .int .i64 p, .int .i64 q, .int .i64 r, .int .i64 cn] 33)).heap.size = w.heap.size + 1 from by simp] at this)
  obtain ⟨p0, p1, p2, p3, p4, p5, p6, _⟩ := rowc7 HCX0.out
  have hbd : ∀ W : World, (Instr.build 30 #[(0, .int .i64 E)]).run Tryz.prog W = .ok (.agg #[.int .i64 E, .string ⟨#[]⟩, .int .i64 0, .int .i64 0, .int .i64 0, .int .i64 0]) W := fun W => run_build W 30 _ _ (by kernel_rfl)
  go_enter Tryz.func13, Tryz.ntmps13
  go_wp2_with (first | (go_at_call 36; (with_reducible refine (HMY.out _ HBW0.out).mono ?_); rintro e W0 ⟨rfl, hb1⟩; have HBW := Lib.hid (HBW0.out.trans (hb1.mono HBW0.out.size)); have HCX := Lib.hid ((hb1.block w.heap.size (by simp; omega)).trans HCX0.out); have HRX := Lib.hid ((hb1.block (w.heap.size + 1) (by simp)).trans HRX0.out); clear hb1 p0 p1 p2 p3 p4 p5 p6; obtain ⟨p0, p1, p2, p3, p4, p5, p6, _⟩ := rowc7 HCX.out; obtain ⟨x0, x1, x2, x3, x4, x5, f0, f1, f2, f3, f4, f5⟩ := rowc6 HRX.out) | (go_at_call 38; (with_reducible refine (HC.out _ HBW.out).mono ?_); rintro e W1 ⟨rfl, hP⟩; have HQ := Lib.hid hP; have HE := Lib.hid (HFr.out _ _ hP); have HR1 := Lib.hid ((HE.out.1 (w.heap.size + 1) (by omega) (Array.getElem?_eq_some_iff.1 HRX.out).1).trans HRX.out); clear hP p0 p1 p2 p3 p4 p5 p6 x0 x1 x2 x3 x4 x5 f0 f1 f2 f3 f4 f5; obtain ⟨x0, x1, x2, x3, x4, x5, f0, f1, f2, f3, f4, f5⟩ := rowc6 HR1.out))
  refine (show bodyPost Tryz.prog Tryz.f13 _ Exit.ret _ (wr6 W1 (w.heap.size + 1) (.int .i64 E) (.string ⟨#[]⟩) (.int .i64 0) (.int .i64 0) (.int .i64 0) (.int .i64 0)) from ?_)
  have R := wr6_row (a0 := .int .i64 E) (a1 := .string ⟨#[]⟩) (a2 := .int .i64 0) (a3 := .int .i64 0) (a4 := .int .i64 0) (a5 := .int .i64 0) HR1.out
  have FF := wr6_fr W1 (w.heap.size + 1) (.int .i64 E) (.string ⟨#[]⟩) (.int .i64 0) (.int .i64 0) (.int .i64 0) (.int .i64 0)
  generalize wr6 W1 (w.heap.size + 1) (.int .i64 E) (.string ⟨#[]⟩) (.int .i64 0) (.int .i64 0) (.int .i64 0) (.int .i64 0) = W at *
  obtain ⟨y0, y1, y2, y3, y4, y5, _⟩ := rowc6 R
  refine bodyPost_ret (v := .agg #[.int .i64 E, .string ⟨#[]⟩, .int .i64 0, .int .i64 0, .int .i64 0, .int .i64 0]) (by simp [results, Tryz.results13, go_sem, y0, y1, y2, y3, y4, y5]) rfl ⟨rfl, W0, W1, HBW.out, HQ.out, (Array.getElem?_eq_some_iff.1 HRX.out).1, FF⟩
set_option maxHeartbeats 4000000 in
theorem do_3 (b : Nat) (cS cT : ByteArray) (p q r cn : Int) (E : Int) (R : World → World → Prop) (w : World)
    (HMY : Hid (∀ X, Below w.heap.size w X → Calls Tryz.prog 36 #[.agg #[.int .i64 3, .string cS, .string cT, .int .i64 p, .int .i64 q, .int .i64 r, .int .i64 cn]] X (RetBelow (.bool true) X)))
    (HC : Hid (∀ X, Below w.heap.size w X → Calls Tryz.prog 39 #[.pointer (some ⟨b, 0, none⟩), .agg #[.int .i64 3, .string cS, .string cT, .int .i64 p, .int .i64 q, .int .i64 r, .int .i64 cn]] X fun e w' => e = .returned (.int .i64 E) ∧ R X w'))
    (HFr : Hid (∀ X0 X1, R X0 X1 → (∀ k, w.heap.size ≤ k → k < X0.heap.size → X1.heap[k]? = X0.heap[k]?) ∧ X0.heap.size ≤ X1.heap.size)) :
    Calls Tryz.prog 13 #[.pointer (some ⟨b, 0, none⟩), .agg #[.int .i64 3, .string cS, .string cT, .int .i64 p, .int .i64 q, .int .i64 r, .int .i64 cn]] w (DoPost (.agg #[.int .i64 E, .string ⟨#[]⟩, .int .i64 0, .int .i64 0, .int .i64 0, .int .i64 0]) R w) := by
  have HBW0 := Lib.hid (below_2 w (.cells #[.int .i64 3, .string cS, .string cT, .int .i64 p, .int .i64 q, .int .i64 r, .int .i64 cn] 33) (.cells #[.int .i64 0, .string ⟨#[]⟩, .int .i64 0, .int .i64 0, .int .i64 0, .int .i64 0] 30))
  have HCX0 := Lib.hid (show ((w.alloc (.cells #[.int .i64 3, .string cS, .string cT, .int .i64 p, .int .i64 q, .int .i64 r, .int .i64 cn] 33)).alloc (.cells #[.int .i64 0, .string ⟨#[]⟩, .int .i64 0, .int .i64 0, .int .i64 0, .int .i64 0] 30)).heap[w.heap.size]? = some (.cells #[.int .i64 3, .string cS, .string cT, .int .i64 p, .int .i64 q, .int .i64 r, .int .i64 cn] 33 (0, 0)) from (Below.heap_alloc _ _ _ (by simp)).trans (heap_alloc_new w _))
  have HRX0 := Lib.hid (show ((w.alloc (.cells #[.int .i64 3, .string cS, .string cT, .int .i64 p, .int .i64 q, .int .i64 r, .int .i64 cn] 33)).alloc (.cells #[.int .i64 0, .string ⟨#[]⟩, .int .i64 0, .int .i64 0, .int .i64 0, .int .i64 0] 30)).heap[w.heap.size + 1]? = some (.cells #[.int .i64 0, .string ⟨#[]⟩, .int .i64 0, .int .i64 0, .int .i64 0, .int .i64 0] 30 (0, 0)) from by have := heap_alloc_new (w.alloc (.cells #[.int .i64 3, .string cS, .string cT, .int .i64 p, .int .i64 q, .int .i64 r, .int .i64 cn] 33)) (.cells #[.int .i64 0, .string ⟨#[]⟩, .int .i64 0, .int .i64 0, .int .i64 0, .int .i64 0] 30); rwa [show (w.alloc (.cells #[.int .i64 3, .string cS, .string cT, .int .i64 p, .int .i64 q, .int .i64 r, .int .i64 cn] 33)).heap.size = w.heap.size + 1 from by simp] at this)
  obtain ⟨p0, p1, p2, p3, p4, p5, p6, _⟩ := rowc7 HCX0.out
  have hbd : ∀ W : World, (Instr.build 30 #[(0, .int .i64 E)]).run Tryz.prog W = .ok (.agg #[.int .i64 E, .string ⟨#[]⟩, .int .i64 0, .int .i64 0, .int .i64 0, .int .i64 0]) W := fun W => run_build W 30 _ _ (by kernel_rfl)
  go_enter Tryz.func13, Tryz.ntmps13
  go_wp2_with (first | (go_at_call 36; (with_reducible refine (HMY.out _ HBW0.out).mono ?_); rintro e W0 ⟨rfl, hb1⟩; have HBW := Lib.hid (HBW0.out.trans (hb1.mono HBW0.out.size)); have HCX := Lib.hid ((hb1.block w.heap.size (by simp; omega)).trans HCX0.out); have HRX := Lib.hid ((hb1.block (w.heap.size + 1) (by simp)).trans HRX0.out); clear hb1 p0 p1 p2 p3 p4 p5 p6; obtain ⟨p0, p1, p2, p3, p4, p5, p6, _⟩ := rowc7 HCX.out; obtain ⟨x0, x1, x2, x3, x4, x5, f0, f1, f2, f3, f4, f5⟩ := rowc6 HRX.out) | (go_at_call 39; (with_reducible refine (HC.out _ HBW.out).mono ?_); rintro e W1 ⟨rfl, hP⟩; have HQ := Lib.hid hP; have HE := Lib.hid (HFr.out _ _ hP); have HR1 := Lib.hid ((HE.out.1 (w.heap.size + 1) (by omega) (Array.getElem?_eq_some_iff.1 HRX.out).1).trans HRX.out); clear hP p0 p1 p2 p3 p4 p5 p6 x0 x1 x2 x3 x4 x5 f0 f1 f2 f3 f4 f5; obtain ⟨x0, x1, x2, x3, x4, x5, f0, f1, f2, f3, f4, f5⟩ := rowc6 HR1.out))
  refine (show bodyPost Tryz.prog Tryz.f13 _ Exit.ret _ (wr6 W1 (w.heap.size + 1) (.int .i64 E) (.string ⟨#[]⟩) (.int .i64 0) (.int .i64 0) (.int .i64 0) (.int .i64 0)) from ?_)
  have R := wr6_row (a0 := .int .i64 E) (a1 := .string ⟨#[]⟩) (a2 := .int .i64 0) (a3 := .int .i64 0) (a4 := .int .i64 0) (a5 := .int .i64 0) HR1.out
  have FF := wr6_fr W1 (w.heap.size + 1) (.int .i64 E) (.string ⟨#[]⟩) (.int .i64 0) (.int .i64 0) (.int .i64 0) (.int .i64 0)
  generalize wr6 W1 (w.heap.size + 1) (.int .i64 E) (.string ⟨#[]⟩) (.int .i64 0) (.int .i64 0) (.int .i64 0) (.int .i64 0) = W at *
  obtain ⟨y0, y1, y2, y3, y4, y5, _⟩ := rowc6 R
  refine bodyPost_ret (v := .agg #[.int .i64 E, .string ⟨#[]⟩, .int .i64 0, .int .i64 0, .int .i64 0, .int .i64 0]) (by simp [results, Tryz.results13, go_sem, y0, y1, y2, y3, y4, y5]) rfl ⟨rfl, W0, W1, HBW.out, HQ.out, (Array.getElem?_eq_some_iff.1 HRX.out).1, FF⟩
set_option maxHeartbeats 4000000 in
theorem do_4 (b : Nat) (cS cT : ByteArray) (p q r cn : Int) (E : Int) (R : World → World → Prop) (w : World)
    (HMY : Hid (∀ X, Below w.heap.size w X → Calls Tryz.prog 36 #[.agg #[.int .i64 4, .string cS, .string cT, .int .i64 p, .int .i64 q, .int .i64 r, .int .i64 cn]] X (RetBelow (.bool true) X)))
    (HC : Hid (∀ X, Below w.heap.size w X → Calls Tryz.prog 40 #[.pointer (some ⟨b, 0, none⟩), .agg #[.int .i64 4, .string cS, .string cT, .int .i64 p, .int .i64 q, .int .i64 r, .int .i64 cn]] X fun e w' => e = .returned (.int .i64 E) ∧ R X w'))
    (HFr : Hid (∀ X0 X1, R X0 X1 → (∀ k, w.heap.size ≤ k → k < X0.heap.size → X1.heap[k]? = X0.heap[k]?) ∧ X0.heap.size ≤ X1.heap.size)) :
    Calls Tryz.prog 13 #[.pointer (some ⟨b, 0, none⟩), .agg #[.int .i64 4, .string cS, .string cT, .int .i64 p, .int .i64 q, .int .i64 r, .int .i64 cn]] w (DoPost (.agg #[.int .i64 E, .string ⟨#[]⟩, .int .i64 0, .int .i64 0, .int .i64 0, .int .i64 0]) R w) := by
  have HBW0 := Lib.hid (below_2 w (.cells #[.int .i64 4, .string cS, .string cT, .int .i64 p, .int .i64 q, .int .i64 r, .int .i64 cn] 33) (.cells #[.int .i64 0, .string ⟨#[]⟩, .int .i64 0, .int .i64 0, .int .i64 0, .int .i64 0] 30))
  have HCX0 := Lib.hid (show ((w.alloc (.cells #[.int .i64 4, .string cS, .string cT, .int .i64 p, .int .i64 q, .int .i64 r, .int .i64 cn] 33)).alloc (.cells #[.int .i64 0, .string ⟨#[]⟩, .int .i64 0, .int .i64 0, .int .i64 0, .int .i64 0] 30)).heap[w.heap.size]? = some (.cells #[.int .i64 4, .string cS, .string cT, .int .i64 p, .int .i64 q, .int .i64 r, .int .i64 cn] 33 (0, 0)) from (Below.heap_alloc _ _ _ (by simp)).trans (heap_alloc_new w _))
  have HRX0 := Lib.hid (show ((w.alloc (.cells #[.int .i64 4, .string cS, .string cT, .int .i64 p, .int .i64 q, .int .i64 r, .int .i64 cn] 33)).alloc (.cells #[.int .i64 0, .string ⟨#[]⟩, .int .i64 0, .int .i64 0, .int .i64 0, .int .i64 0] 30)).heap[w.heap.size + 1]? = some (.cells #[.int .i64 0, .string ⟨#[]⟩, .int .i64 0, .int .i64 0, .int .i64 0, .int .i64 0] 30 (0, 0)) from by have := heap_alloc_new (w.alloc (.cells #[.int .i64 4, .string cS, .string cT, .int .i64 p, .int .i64 q, .int .i64 r, .int .i64 cn] 33)) (.cells #[.int .i64 0, .string ⟨#[]⟩, .int .i64 0, .int .i64 0, .int .i64 0, .int .i64 0] 30); rwa [show (w.alloc (.cells #[.int .i64 4, .string cS, .string cT, .int .i64 p, .int .i64 q, .int .i64 r, .int .i64 cn] 33)).heap.size = w.heap.size + 1 from by simp] at this)
  obtain ⟨p0, p1, p2, p3, p4, p5, p6, _⟩ := rowc7 HCX0.out
  have hbd : ∀ W : World, (Instr.build 30 #[(0, .int .i64 E)]).run Tryz.prog W = .ok (.agg #[.int .i64 E, .string ⟨#[]⟩, .int .i64 0, .int .i64 0, .int .i64 0, .int .i64 0]) W := fun W => run_build W 30 _ _ (by kernel_rfl)
  go_enter Tryz.func13, Tryz.ntmps13
  go_wp2_with (first | (go_at_call 36; (with_reducible refine (HMY.out _ HBW0.out).mono ?_); rintro e W0 ⟨rfl, hb1⟩; have HBW := Lib.hid (HBW0.out.trans (hb1.mono HBW0.out.size)); have HCX := Lib.hid ((hb1.block w.heap.size (by simp; omega)).trans HCX0.out); have HRX := Lib.hid ((hb1.block (w.heap.size + 1) (by simp)).trans HRX0.out); clear hb1 p0 p1 p2 p3 p4 p5 p6; obtain ⟨p0, p1, p2, p3, p4, p5, p6, _⟩ := rowc7 HCX.out; obtain ⟨x0, x1, x2, x3, x4, x5, f0, f1, f2, f3, f4, f5⟩ := rowc6 HRX.out) | (go_at_call 40; (with_reducible refine (HC.out _ HBW.out).mono ?_); rintro e W1 ⟨rfl, hP⟩; have HQ := Lib.hid hP; have HE := Lib.hid (HFr.out _ _ hP); have HR1 := Lib.hid ((HE.out.1 (w.heap.size + 1) (by omega) (Array.getElem?_eq_some_iff.1 HRX.out).1).trans HRX.out); clear hP p0 p1 p2 p3 p4 p5 p6 x0 x1 x2 x3 x4 x5 f0 f1 f2 f3 f4 f5; obtain ⟨x0, x1, x2, x3, x4, x5, f0, f1, f2, f3, f4, f5⟩ := rowc6 HR1.out))
  refine (show bodyPost Tryz.prog Tryz.f13 _ Exit.ret _ (wr6 W1 (w.heap.size + 1) (.int .i64 E) (.string ⟨#[]⟩) (.int .i64 0) (.int .i64 0) (.int .i64 0) (.int .i64 0)) from ?_)
  have R := wr6_row (a0 := .int .i64 E) (a1 := .string ⟨#[]⟩) (a2 := .int .i64 0) (a3 := .int .i64 0) (a4 := .int .i64 0) (a5 := .int .i64 0) HR1.out
  have FF := wr6_fr W1 (w.heap.size + 1) (.int .i64 E) (.string ⟨#[]⟩) (.int .i64 0) (.int .i64 0) (.int .i64 0) (.int .i64 0)
  generalize wr6 W1 (w.heap.size + 1) (.int .i64 E) (.string ⟨#[]⟩) (.int .i64 0) (.int .i64 0) (.int .i64 0) (.int .i64 0) = W at *
  obtain ⟨y0, y1, y2, y3, y4, y5, _⟩ := rowc6 R
  refine bodyPost_ret (v := .agg #[.int .i64 E, .string ⟨#[]⟩, .int .i64 0, .int .i64 0, .int .i64 0, .int .i64 0]) (by simp [results, Tryz.results13, go_sem, y0, y1, y2, y3, y4, y5]) rfl ⟨rfl, W0, W1, HBW.out, HQ.out, (Array.getElem?_eq_some_iff.1 HRX.out).1, FF⟩
set_option maxHeartbeats 4000000 in
theorem do_5 (b : Nat) (cS cT : ByteArray) (p q r cn : Int) (E : Int) (rs : ByteArray) (ra rb rc rn : Int) (R : World → World → Prop) (w : World)
    (HMY : Hid (∀ X, Below w.heap.size w X → Calls Tryz.prog 36 #[.agg #[.int .i64 5, .string cS, .string cT, .int .i64 p, .int .i64 q, .int .i64 r, .int .i64 cn]] X (RetBelow (.bool true) X)))
    (HC : Hid (∀ X, Below w.heap.size w X → Calls Tryz.prog 41 #[.pointer (some ⟨b, 0, none⟩), .agg #[.int .i64 5, .string cS, .string cT, .int .i64 p, .int .i64 q, .int .i64 r, .int .i64 cn]] X fun e w' => e = .returned (.agg #[.int .i64 E, .string rs, .int .i64 ra, .int .i64 rb, .int .i64 rc, .int .i64 rn]) ∧ R X w'))
    (HFr : Hid (∀ X0 X1, R X0 X1 → (∀ k, w.heap.size ≤ k → k < X0.heap.size → X1.heap[k]? = X0.heap[k]?) ∧ X0.heap.size ≤ X1.heap.size)) :
    Calls Tryz.prog 13 #[.pointer (some ⟨b, 0, none⟩), .agg #[.int .i64 5, .string cS, .string cT, .int .i64 p, .int .i64 q, .int .i64 r, .int .i64 cn]] w (DoPost (.agg #[.int .i64 E, .string rs, .int .i64 ra, .int .i64 rb, .int .i64 rc, .int .i64 rn]) R w) := by
  have HBW0 := Lib.hid (below_2 w (.cells #[.int .i64 5, .string cS, .string cT, .int .i64 p, .int .i64 q, .int .i64 r, .int .i64 cn] 33) (.cells #[.int .i64 0, .string ⟨#[]⟩, .int .i64 0, .int .i64 0, .int .i64 0, .int .i64 0] 30))
  have HCX0 := Lib.hid (show ((w.alloc (.cells #[.int .i64 5, .string cS, .string cT, .int .i64 p, .int .i64 q, .int .i64 r, .int .i64 cn] 33)).alloc (.cells #[.int .i64 0, .string ⟨#[]⟩, .int .i64 0, .int .i64 0, .int .i64 0, .int .i64 0] 30)).heap[w.heap.size]? = some (.cells #[.int .i64 5, .string cS, .string cT, .int .i64 p, .int .i64 q, .int .i64 r, .int .i64 cn] 33 (0, 0)) from (Below.heap_alloc _ _ _ (by simp)).trans (heap_alloc_new w _))
  have HRX0 := Lib.hid (show ((w.alloc (.cells #[.int .i64 5, .string cS, .string cT, .int .i64 p, .int .i64 q, .int .i64 r, .int .i64 cn] 33)).alloc (.cells #[.int .i64 0, .string ⟨#[]⟩, .int .i64 0, .int .i64 0, .int .i64 0, .int .i64 0] 30)).heap[w.heap.size + 1]? = some (.cells #[.int .i64 0, .string ⟨#[]⟩, .int .i64 0, .int .i64 0, .int .i64 0, .int .i64 0] 30 (0, 0)) from by have := heap_alloc_new (w.alloc (.cells #[.int .i64 5, .string cS, .string cT, .int .i64 p, .int .i64 q, .int .i64 r, .int .i64 cn] 33)) (.cells #[.int .i64 0, .string ⟨#[]⟩, .int .i64 0, .int .i64 0, .int .i64 0, .int .i64 0] 30); rwa [show (w.alloc (.cells #[.int .i64 5, .string cS, .string cT, .int .i64 p, .int .i64 q, .int .i64 r, .int .i64 cn] 33)).heap.size = w.heap.size + 1 from by simp] at this)
  obtain ⟨p0, p1, p2, p3, p4, p5, p6, _⟩ := rowc7 HCX0.out
  go_enter Tryz.func13, Tryz.ntmps13
  go_wp2_with (first | (go_at_call 36; (with_reducible refine (HMY.out _ HBW0.out).mono ?_); rintro e W0 ⟨rfl, hb1⟩; have HBW := Lib.hid (HBW0.out.trans (hb1.mono HBW0.out.size)); have HCX := Lib.hid ((hb1.block w.heap.size (by simp; omega)).trans HCX0.out); have HRX := Lib.hid ((hb1.block (w.heap.size + 1) (by simp)).trans HRX0.out); clear hb1 p0 p1 p2 p3 p4 p5 p6; obtain ⟨p0, p1, p2, p3, p4, p5, p6, _⟩ := rowc7 HCX.out; obtain ⟨x0, x1, x2, x3, x4, x5, f0, f1, f2, f3, f4, f5⟩ := rowc6 HRX.out) | (go_at_call 41; (with_reducible refine (HC.out _ HBW.out).mono ?_); rintro e W1 ⟨rfl, hP⟩; have HQ := Lib.hid hP; have HE := Lib.hid (HFr.out _ _ hP); have HR1 := Lib.hid ((HE.out.1 (w.heap.size + 1) (by omega) (Array.getElem?_eq_some_iff.1 HRX.out).1).trans HRX.out); clear hP p0 p1 p2 p3 p4 p5 p6 x0 x1 x2 x3 x4 x5 f0 f1 f2 f3 f4 f5; obtain ⟨x0, x1, x2, x3, x4, x5, f0, f1, f2, f3, f4, f5⟩ := rowc6 HR1.out))
  refine (show bodyPost Tryz.prog Tryz.f13 _ Exit.ret _ (wr6 W1 (w.heap.size + 1) (.int .i64 E) (.string rs) (.int .i64 ra) (.int .i64 rb) (.int .i64 rc) (.int .i64 rn)) from ?_)
  have R := wr6_row (a0 := .int .i64 E) (a1 := .string rs) (a2 := .int .i64 ra) (a3 := .int .i64 rb) (a4 := .int .i64 rc) (a5 := .int .i64 rn) HR1.out
  have FF := wr6_fr W1 (w.heap.size + 1) (.int .i64 E) (.string rs) (.int .i64 ra) (.int .i64 rb) (.int .i64 rc) (.int .i64 rn)
  generalize wr6 W1 (w.heap.size + 1) (.int .i64 E) (.string rs) (.int .i64 ra) (.int .i64 rb) (.int .i64 rc) (.int .i64 rn) = W at *
  obtain ⟨y0, y1, y2, y3, y4, y5, _⟩ := rowc6 R
  refine bodyPost_ret (v := .agg #[.int .i64 E, .string rs, .int .i64 ra, .int .i64 rb, .int .i64 rc, .int .i64 rn]) (by simp [results, Tryz.results13, go_sem, y0, y1, y2, y3, y4, y5]) rfl ⟨rfl, W0, W1, HBW.out, HQ.out, (Array.getElem?_eq_some_iff.1 HRX.out).1, FF⟩
set_option maxHeartbeats 4000000 in
theorem do_6 (b : Nat) (cS cT : ByteArray) (p q r cn : Int) (E : Int) (rs : ByteArray) (ra rb rc rn : Int) (R : World → World → Prop) (w : World)
    (HMY : Hid (∀ X, Below w.heap.size w X → Calls Tryz.prog 36 #[.agg #[.int .i64 6, .string cS, .string cT, .int .i64 p, .int .i64 q, .int .i64 r, .int .i64 cn]] X (RetBelow (.bool true) X)))
    (HC : Hid (∀ X, Below w.heap.size w X → Calls Tryz.prog 42 #[.pointer (some ⟨b, 0, none⟩), .agg #[.int .i64 6, .string cS, .string cT, .int .i64 p, .int .i64 q, .int .i64 r, .int .i64 cn]] X fun e w' => e = .returned (.agg #[.int .i64 E, .string rs, .int .i64 ra, .int .i64 rb, .int .i64 rc, .int .i64 rn]) ∧ R X w'))
    (HFr : Hid (∀ X0 X1, R X0 X1 → (∀ k, w.heap.size ≤ k → k < X0.heap.size → X1.heap[k]? = X0.heap[k]?) ∧ X0.heap.size ≤ X1.heap.size)) :
    Calls Tryz.prog 13 #[.pointer (some ⟨b, 0, none⟩), .agg #[.int .i64 6, .string cS, .string cT, .int .i64 p, .int .i64 q, .int .i64 r, .int .i64 cn]] w (DoPost (.agg #[.int .i64 E, .string rs, .int .i64 ra, .int .i64 rb, .int .i64 rc, .int .i64 rn]) R w) := by
  have HBW0 := Lib.hid (below_2 w (.cells #[.int .i64 6, .string cS, .string cT, .int .i64 p, .int .i64 q, .int .i64 r, .int .i64 cn] 33) (.cells #[.int .i64 0, .string ⟨#[]⟩, .int .i64 0, .int .i64 0, .int .i64 0, .int .i64 0] 30))
  have HCX0 := Lib.hid (show ((w.alloc (.cells #[.int .i64 6, .string cS, .string cT, .int .i64 p, .int .i64 q, .int .i64 r, .int .i64 cn] 33)).alloc (.cells #[.int .i64 0, .string ⟨#[]⟩, .int .i64 0, .int .i64 0, .int .i64 0, .int .i64 0] 30)).heap[w.heap.size]? = some (.cells #[.int .i64 6, .string cS, .string cT, .int .i64 p, .int .i64 q, .int .i64 r, .int .i64 cn] 33 (0, 0)) from (Below.heap_alloc _ _ _ (by simp)).trans (heap_alloc_new w _))
  have HRX0 := Lib.hid (show ((w.alloc (.cells #[.int .i64 6, .string cS, .string cT, .int .i64 p, .int .i64 q, .int .i64 r, .int .i64 cn] 33)).alloc (.cells #[.int .i64 0, .string ⟨#[]⟩, .int .i64 0, .int .i64 0, .int .i64 0, .int .i64 0] 30)).heap[w.heap.size + 1]? = some (.cells #[.int .i64 0, .string ⟨#[]⟩, .int .i64 0, .int .i64 0, .int .i64 0, .int .i64 0] 30 (0, 0)) from by have := heap_alloc_new (w.alloc (.cells #[.int .i64 6, .string cS, .string cT, .int .i64 p, .int .i64 q, .int .i64 r, .int .i64 cn] 33)) (.cells #[.int .i64 0, .string ⟨#[]⟩, .int .i64 0, .int .i64 0, .int .i64 0, .int .i64 0] 30); rwa [show (w.alloc (.cells #[.int .i64 6, .string cS, .string cT, .int .i64 p, .int .i64 q, .int .i64 r, .int .i64 cn] 33)).heap.size = w.heap.size + 1 from by simp] at this)
  obtain ⟨p0, p1, p2, p3, p4, p5, p6, _⟩ := rowc7 HCX0.out
  go_enter Tryz.func13, Tryz.ntmps13
  go_wp2_with (first | (go_at_call 36; (with_reducible refine (HMY.out _ HBW0.out).mono ?_); rintro e W0 ⟨rfl, hb1⟩; have HBW := Lib.hid (HBW0.out.trans (hb1.mono HBW0.out.size)); have HCX := Lib.hid ((hb1.block w.heap.size (by simp; omega)).trans HCX0.out); have HRX := Lib.hid ((hb1.block (w.heap.size + 1) (by simp)).trans HRX0.out); clear hb1 p0 p1 p2 p3 p4 p5 p6; obtain ⟨p0, p1, p2, p3, p4, p5, p6, _⟩ := rowc7 HCX.out; obtain ⟨x0, x1, x2, x3, x4, x5, f0, f1, f2, f3, f4, f5⟩ := rowc6 HRX.out) | (go_at_call 42; (with_reducible refine (HC.out _ HBW.out).mono ?_); rintro e W1 ⟨rfl, hP⟩; have HQ := Lib.hid hP; have HE := Lib.hid (HFr.out _ _ hP); have HR1 := Lib.hid ((HE.out.1 (w.heap.size + 1) (by omega) (Array.getElem?_eq_some_iff.1 HRX.out).1).trans HRX.out); clear hP p0 p1 p2 p3 p4 p5 p6 x0 x1 x2 x3 x4 x5 f0 f1 f2 f3 f4 f5; obtain ⟨x0, x1, x2, x3, x4, x5, f0, f1, f2, f3, f4, f5⟩ := rowc6 HR1.out))
  refine (show bodyPost Tryz.prog Tryz.f13 _ Exit.ret _ (wr6 W1 (w.heap.size + 1) (.int .i64 E) (.string rs) (.int .i64 ra) (.int .i64 rb) (.int .i64 rc) (.int .i64 rn)) from ?_)
  have R := wr6_row (a0 := .int .i64 E) (a1 := .string rs) (a2 := .int .i64 ra) (a3 := .int .i64 rb) (a4 := .int .i64 rc) (a5 := .int .i64 rn) HR1.out
  have FF := wr6_fr W1 (w.heap.size + 1) (.int .i64 E) (.string rs) (.int .i64 ra) (.int .i64 rb) (.int .i64 rc) (.int .i64 rn)
  generalize wr6 W1 (w.heap.size + 1) (.int .i64 E) (.string rs) (.int .i64 ra) (.int .i64 rb) (.int .i64 rc) (.int .i64 rn) = W at *
  obtain ⟨y0, y1, y2, y3, y4, y5, _⟩ := rowc6 R
  refine bodyPost_ret (v := .agg #[.int .i64 E, .string rs, .int .i64 ra, .int .i64 rb, .int .i64 rc, .int .i64 rn]) (by simp [results, Tryz.results13, go_sem, y0, y1, y2, y3, y4, y5]) rfl ⟨rfl, W0, W1, HBW.out, HQ.out, (Array.getElem?_eq_some_iff.1 HRX.out).1, FF⟩
set_option maxHeartbeats 4000000 in
theorem do_7 (b : Nat) (cS cT : ByteArray) (p q r cn : Int) (E : Int) (R : World → World → Prop) (w : World)
    (HMY : Hid (∀ X, Below w.heap.size w X → Calls Tryz.prog 36 #[.agg #[.int .i64 7, .string cS, .string cT, .int .i64 p, .int .i64 q, .int .i64 r, .int .i64 cn]] X (RetBelow (.bool true) X)))
    (HC : Hid (∀ X, Below w.heap.size w X → Calls Tryz.prog 43 #[.pointer (some ⟨b, 0, none⟩), .agg #[.int .i64 7, .string cS, .string cT, .int .i64 p, .int .i64 q, .int .i64 r, .int .i64 cn]] X fun e w' => e = .returned (.int .i64 E) ∧ R X w'))
    (HFr : Hid (∀ X0 X1, R X0 X1 → (∀ k, w.heap.size ≤ k → k < X0.heap.size → X1.heap[k]? = X0.heap[k]?) ∧ X0.heap.size ≤ X1.heap.size)) :
    Calls Tryz.prog 13 #[.pointer (some ⟨b, 0, none⟩), .agg #[.int .i64 7, .string cS, .string cT, .int .i64 p, .int .i64 q, .int .i64 r, .int .i64 cn]] w (DoPost (.agg #[.int .i64 E, .string ⟨#[]⟩, .int .i64 0, .int .i64 0, .int .i64 0, .int .i64 0]) R w) := by
  have HBW0 := Lib.hid (below_2 w (.cells #[.int .i64 7, .string cS, .string cT, .int .i64 p, .int .i64 q, .int .i64 r, .int .i64 cn] 33) (.cells #[.int .i64 0, .string ⟨#[]⟩, .int .i64 0, .int .i64 0, .int .i64 0, .int .i64 0] 30))
  have HCX0 := Lib.hid (show ((w.alloc (.cells #[.int .i64 7, .string cS, .string cT, .int .i64 p, .int .i64 q, .int .i64 r, .int .i64 cn] 33)).alloc (.cells #[.int .i64 0, .string ⟨#[]⟩, .int .i64 0, .int .i64 0, .int .i64 0, .int .i64 0] 30)).heap[w.heap.size]? = some (.cells #[.int .i64 7, .string cS, .string cT, .int .i64 p, .int .i64 q, .int .i64 r, .int .i64 cn] 33 (0, 0)) from (Below.heap_alloc _ _ _ (by simp)).trans (heap_alloc_new w _))
  have HRX0 := Lib.hid (show ((w.alloc (.cells #[.int .i64 7, .string cS, .string cT, .int .i64 p, .int .i64 q, .int .i64 r, .int .i64 cn] 33)).alloc (.cells #[.int .i64 0, .string ⟨#[]⟩, .int .i64 0, .int .i64 0, .int .i64 0, .int .i64 0] 30)).heap[w.heap.size + 1]? = some (.cells #[.int .i64 0, .string ⟨#[]⟩, .int .i64 0, .int .i64 0, .int .i64 0, .int .i64 0] 30 (0, 0)) from by have := heap_alloc_new (w.alloc (.cells #[.int .i64 7, .string cS, .string cT, .int .i64 p, .int .i64 q, .int .i64 r, .int .i64 cn] 33)) (.cells #[.int .i64 0, .string ⟨#[]⟩, .int .i64 0, .int .i64 0, .int .i64 0, .int .i64 0] 30); rwa [show (w.alloc (.cells #[.int .i64 7, .string cS, .string cT, .int .i64 p, .int .i64 q, .int .i64 r, .int .i64 cn] 33)).heap.size = w.heap.size + 1 from by simp] at this)
  obtain ⟨p0, p1, p2, p3, p4, p5, p6, _⟩ := rowc7 HCX0.out
  have hbd : ∀ W : World, (Instr.build 30 #[(0, .int .i64 E)]).run Tryz.prog W = .ok (.agg #[.int .i64 E, .string ⟨#[]⟩, .int .i64 0, .int .i64 0, .int .i64 0, .int .i64 0]) W := fun W => run_build W 30 _ _ (by kernel_rfl)
  go_enter Tryz.func13, Tryz.ntmps13
  go_wp2_with (first | (go_at_call 36; (with_reducible refine (HMY.out _ HBW0.out).mono ?_); rintro e W0 ⟨rfl, hb1⟩; have HBW := Lib.hid (HBW0.out.trans (hb1.mono HBW0.out.size)); have HCX := Lib.hid ((hb1.block w.heap.size (by simp; omega)).trans HCX0.out); have HRX := Lib.hid ((hb1.block (w.heap.size + 1) (by simp)).trans HRX0.out); clear hb1 p0 p1 p2 p3 p4 p5 p6; obtain ⟨p0, p1, p2, p3, p4, p5, p6, _⟩ := rowc7 HCX.out; obtain ⟨x0, x1, x2, x3, x4, x5, f0, f1, f2, f3, f4, f5⟩ := rowc6 HRX.out) | (go_at_call 43; (with_reducible refine (HC.out _ HBW.out).mono ?_); rintro e W1 ⟨rfl, hP⟩; have HQ := Lib.hid hP; have HE := Lib.hid (HFr.out _ _ hP); have HR1 := Lib.hid ((HE.out.1 (w.heap.size + 1) (by omega) (Array.getElem?_eq_some_iff.1 HRX.out).1).trans HRX.out); clear hP p0 p1 p2 p3 p4 p5 p6 x0 x1 x2 x3 x4 x5 f0 f1 f2 f3 f4 f5; obtain ⟨x0, x1, x2, x3, x4, x5, f0, f1, f2, f3, f4, f5⟩ := rowc6 HR1.out))
  refine (show bodyPost Tryz.prog Tryz.f13 _ Exit.ret _ (wr6 W1 (w.heap.size + 1) (.int .i64 E) (.string ⟨#[]⟩) (.int .i64 0) (.int .i64 0) (.int .i64 0) (.int .i64 0)) from ?_)
  have R := wr6_row (a0 := .int .i64 E) (a1 := .string ⟨#[]⟩) (a2 := .int .i64 0) (a3 := .int .i64 0) (a4 := .int .i64 0) (a5 := .int .i64 0) HR1.out
  have FF := wr6_fr W1 (w.heap.size + 1) (.int .i64 E) (.string ⟨#[]⟩) (.int .i64 0) (.int .i64 0) (.int .i64 0) (.int .i64 0)
  generalize wr6 W1 (w.heap.size + 1) (.int .i64 E) (.string ⟨#[]⟩) (.int .i64 0) (.int .i64 0) (.int .i64 0) (.int .i64 0) = W at *
  obtain ⟨y0, y1, y2, y3, y4, y5, _⟩ := rowc6 R
  refine bodyPost_ret (v := .agg #[.int .i64 E, .string ⟨#[]⟩, .int .i64 0, .int .i64 0, .int .i64 0, .int .i64 0]) (by simp [results, Tryz.results13, go_sem, y0, y1, y2, y3, y4, y5]) rfl ⟨rfl, W0, W1, HBW.out, HQ.out, (Array.getElem?_eq_some_iff.1 HRX.out).1, FF⟩
set_option maxHeartbeats 4000000 in
theorem do_8 (b : Nat) (co : Int) (cS cT : ByteArray) (p q r cn : Int) (E : Int) (rs : ByteArray) (ra rb rc rn : Int) (R : World → World → Prop) (w : World)
    (hco : Hid (¬ co = 1 ∧ ¬ co = 2 ∧ ¬ co = 3 ∧ ¬ co = 4 ∧ ¬ co = 5 ∧ ¬ co = 6 ∧ ¬ co = 7))
    (HMY : Hid (∀ X, Below w.heap.size w X → Calls Tryz.prog 36 #[.agg #[.int .i64 co, .string cS, .string cT, .int .i64 p, .int .i64 q, .int .i64 r, .int .i64 cn]] X (RetBelow (.bool true) X)))
    (HC : Hid (∀ X, Below w.heap.size w X → Calls Tryz.prog 35 #[.pointer (some ⟨b, 0, none⟩), .agg #[.int .i64 co, .string cS, .string cT, .int .i64 p, .int .i64 q, .int .i64 r, .int .i64 cn]] X fun e w' => e = .returned (.agg #[.int .i64 E, .string rs, .int .i64 ra, .int .i64 rb, .int .i64 rc, .int .i64 rn]) ∧ R X w'))
    (HFr : Hid (∀ X0 X1, R X0 X1 → (∀ k, w.heap.size ≤ k → k < X0.heap.size → X1.heap[k]? = X0.heap[k]?) ∧ X0.heap.size ≤ X1.heap.size)) :
    Calls Tryz.prog 13 #[.pointer (some ⟨b, 0, none⟩), .agg #[.int .i64 co, .string cS, .string cT, .int .i64 p, .int .i64 q, .int .i64 r, .int .i64 cn]] w (DoPost (.agg #[.int .i64 E, .string rs, .int .i64 ra, .int .i64 rb, .int .i64 rc, .int .i64 rn]) R w) := by
  have HBW0 := Lib.hid (below_2 w (.cells #[.int .i64 co, .string cS, .string cT, .int .i64 p, .int .i64 q, .int .i64 r, .int .i64 cn] 33) (.cells #[.int .i64 0, .string ⟨#[]⟩, .int .i64 0, .int .i64 0, .int .i64 0, .int .i64 0] 30))
  have HCX0 := Lib.hid (show ((w.alloc (.cells #[.int .i64 co, .string cS, .string cT, .int .i64 p, .int .i64 q, .int .i64 r, .int .i64 cn] 33)).alloc (.cells #[.int .i64 0, .string ⟨#[]⟩, .int .i64 0, .int .i64 0, .int .i64 0, .int .i64 0] 30)).heap[w.heap.size]? = some (.cells #[.int .i64 co, .string cS, .string cT, .int .i64 p, .int .i64 q, .int .i64 r, .int .i64 cn] 33 (0, 0)) from (Below.heap_alloc _ _ _ (by simp)).trans (heap_alloc_new w _))
  have HRX0 := Lib.hid (show ((w.alloc (.cells #[.int .i64 co, .string cS, .string cT, .int .i64 p, .int .i64 q, .int .i64 r, .int .i64 cn] 33)).alloc (.cells #[.int .i64 0, .string ⟨#[]⟩, .int .i64 0, .int .i64 0, .int .i64 0, .int .i64 0] 30)).heap[w.heap.size + 1]? = some (.cells #[.int .i64 0, .string ⟨#[]⟩, .int .i64 0, .int .i64 0, .int .i64 0, .int .i64 0] 30 (0, 0)) from by have := heap_alloc_new (w.alloc (.cells #[.int .i64 co, .string cS, .string cT, .int .i64 p, .int .i64 q, .int .i64 r, .int .i64 cn] 33)) (.cells #[.int .i64 0, .string ⟨#[]⟩, .int .i64 0, .int .i64 0, .int .i64 0, .int .i64 0] 30); rwa [show (w.alloc (.cells #[.int .i64 co, .string cS, .string cT, .int .i64 p, .int .i64 q, .int .i64 r, .int .i64 cn] 33)).heap.size = w.heap.size + 1 from by simp] at this)
  obtain ⟨p0, p1, p2, p3, p4, p5, p6, _⟩ := rowc7 HCX0.out
  obtain ⟨h1, h2, h3, h4, h5, h6, h7⟩ := hco.out
  have g1 : (co == 1) = false := by simp [h1]
  have g2 : (co == 2) = false := by simp [h2]
  have g3 : (co == 3) = false := by simp [h3]
  have g4 : (co == 4) = false := by simp [h4]
  have g5 : (co == 5) = false := by simp [h5]
  have g6 : (co == 6) = false := by simp [h6]
  have g7 : (co == 7) = false := by simp [h7]
  clear h1 h2 h3 h4 h5 h6 h7
  go_enter Tryz.func13, Tryz.ntmps13
  go_wp2_with (first | (go_at_call 36; (with_reducible refine (HMY.out _ HBW0.out).mono ?_); rintro e W0 ⟨rfl, hb1⟩; have HBW := Lib.hid (HBW0.out.trans (hb1.mono HBW0.out.size)); have HCX := Lib.hid ((hb1.block w.heap.size (by simp; omega)).trans HCX0.out); have HRX := Lib.hid ((hb1.block (w.heap.size + 1) (by simp)).trans HRX0.out); clear hb1 p0 p1 p2 p3 p4 p5 p6; obtain ⟨p0, p1, p2, p3, p4, p5, p6, _⟩ := rowc7 HCX.out; obtain ⟨x0, x1, x2, x3, x4, x5, f0, f1, f2, f3, f4, f5⟩ := rowc6 HRX.out) | (go_at_call 35; (with_reducible refine (HC.out _ HBW.out).mono ?_); rintro e W1 ⟨rfl, hP⟩; have HQ := Lib.hid hP; have HE := Lib.hid (HFr.out _ _ hP); have HR1 := Lib.hid ((HE.out.1 (w.heap.size + 1) (by omega) (Array.getElem?_eq_some_iff.1 HRX.out).1).trans HRX.out); clear hP p0 p1 p2 p3 p4 p5 p6 x0 x1 x2 x3 x4 x5 f0 f1 f2 f3 f4 f5; obtain ⟨x0, x1, x2, x3, x4, x5, f0, f1, f2, f3, f4, f5⟩ := rowc6 HR1.out))
  refine (show bodyPost Tryz.prog Tryz.f13 _ Exit.ret _ (wr6 W1 (w.heap.size + 1) (.int .i64 E) (.string rs) (.int .i64 ra) (.int .i64 rb) (.int .i64 rc) (.int .i64 rn)) from ?_)
  have R := wr6_row (a0 := .int .i64 E) (a1 := .string rs) (a2 := .int .i64 ra) (a3 := .int .i64 rb) (a4 := .int .i64 rc) (a5 := .int .i64 rn) HR1.out
  have FF := wr6_fr W1 (w.heap.size + 1) (.int .i64 E) (.string rs) (.int .i64 ra) (.int .i64 rb) (.int .i64 rc) (.int .i64 rn)
  generalize wr6 W1 (w.heap.size + 1) (.int .i64 E) (.string rs) (.int .i64 ra) (.int .i64 rb) (.int .i64 rc) (.int .i64 rn) = W at *
  obtain ⟨y0, y1, y2, y3, y4, y5, _⟩ := rowc6 R
  refine bodyPost_ret (v := .agg #[.int .i64 E, .string rs, .int .i64 ra, .int .i64 rb, .int .i64 rc, .int .i64 rn]) (by simp [results, Tryz.results13, go_sem, y0, y1, y2, y3, y4, y5]) rfl ⟨rfl, W0, W1, HBW.out, HQ.out, (Array.getElem?_eq_some_iff.1 HRX.out).1, FF⟩
end Go.Proofs.YtphclpjekpdifaaGreat
namespace Go.Proofs.YtphclpjekpdifaaGreat
set_option maxRecDepth 20000
open Go.RowKit
open PS (Tx putM dropM setM findM Nod Ten Jb kOf St Cm Rp byName row mayM asksM)
open Go.Proofs.YtphclpjekpdifaaGreat.Nm (str)
open Go.Proofs.YtphclpjekpdifaaGreat.Vc (RetBelow fitB I64)
set_option linter.unusedVariables false
theorem submit_any {w : World} {b : Nat} {S : St} {T : Nat → Prop} (h : Sch w b S T) (hok : Ok S) (c : Cm) (hc : CmOk c) :
    Calls Tryz.prog 41 #[.pointer (some ⟨b, 0, none⟩), cmV c] w fun e w' => e = .returned (rpV (PS.submit S c.s c.t c.a c.b c.c).2) ∧ SchTo w w' b (PS.submit S c.s c.t c.a c.b c.c).1 T := by
  have hT := h.lt
  have hno : ∀ n, PS.choose S c.a c.b c.c = some n → NodOk n := fun n hn => by
    unfold PS.choose at hn
    split at hn
    · split at hn
      · cases hn
      · obtain ⟨k, hk⟩ := byName_mem (List.mem_of_getElem? hn)
        exact hok.nod hk
    · cases hn
  have hk : ∀ n : Nod, nodV n = .agg #[.string (str n.s), .int .i64 n.a, .int .i64 n.b, .int .i64 n.c, .int .i64 n.x, .int .i64 n.y, .int .i64 n.z, .int .i64 n.n, .bool n.d] := fun _ => rfl
  have HCH := Lib.hid fun X (hX : Below w.heap.size w X) => pchoose_any (h.below hX) hok c.a c.b c.c hc.i.1 hc.i.2.1 hc.i.2.2
  unfold PS.submit
  generalize hE : PS.refusal S c.s c.t c.a c.b c.c = E
  generalize hO : PS.choose S c.a c.b c.c = O at *
  have hz : NodOk (O.getD PS.zn) := by
    cases O with
    | none => exact ⟨by simp [PS.zn], by simp [PS.zn, I64]⟩
    | some n => exact hno n rfl
  generalize hn : O.getD PS.zn = n at *
  refine (submit_core b c.o (str c.s) (str c.t) c.a c.b c.c c.n E O.isSome (str n.s) n.a n.b n.c n.x n.y n.z n.n n.d (fun X0 X1 => SchTo X0 X1 b (PS.create S c.s c.t c.a c.b c.c n) T) w
    (Lib.hid fun X hX => hE ▸ refusal_any (h.below hX) hok c hc) (Lib.hid fun X hX => (HCH.out X hX).mono fun e w' q => by unfold ChoosePost at q; rw [hn] at q; exact q)
    (Lib.hid fun _ _ X hX => create_any (h.below hX) hok c hc n hz) (Lib.hid fun X0 X1 q => fr_boxes hT q)).mono ?_
  rintro e w' (⟨h1, rfl, h3⟩ | ⟨h1, h2, rfl, h4⟩ | ⟨h1, h2, rfl, X0, X3, h4, h5, h6, h7⟩)
  · rw [if_neg h1]
    exact ⟨rfl, h.to h3⟩
  · rw [if_pos h1]
    cases O with
    | some x => cases h2
    | none => exact ⟨rfl, h.to h4⟩
  · rw [if_pos h1]
    cases O with
    | none => cases h2
    | some x =>
      obtain rfl : x = n := hn
      exact ⟨rfl, h5.only (fun q => by have := hT _ q; omega) h6 h7 h4 (by omega) hT⟩
theorem mayAt {w : World} {c : Cm} (hc : CmOk c) : Hid (∀ X, Below w.heap.size w X → Calls Tryz.prog 36 #[.agg #[.int .i64 c.o, .string (str c.s), .string (str c.t), .int .i64 c.a, .int .i64 c.b, .int .i64 c.c, .int .i64 c.n]] X (RetBelow (.bool (mayM c)) X)) :=
  Lib.hid fun X _ => Wi.may_any c.o (str c.s) (str c.t) c.a c.b c.c c.n X (by rw [Nm.str_size]; exact hc.s) (by rw [Nm.str_size]; exact hc.t)
theorem asksAt {w : World} {c : Cm} (hc : CmOk c) : Hid (∀ X, Below w.heap.size w X → Calls Tryz.prog 73 #[.agg #[.int .i64 c.o, .string (str c.s), .string (str c.t), .int .i64 c.a, .int .i64 c.b, .int .i64 c.c, .int .i64 c.n]] X (RetBelow (.bool (asksM c)) X)) :=
  Lib.hid fun X _ => Wi.asks_any c.o (str c.s) (str c.t) c.a c.b c.c c.n X (by rw [Nm.str_size]; exact hc.s) (by rw [Nm.str_size]; exact hc.t)
theorem asksM_o {c : Cm} (h : asksM c = true) : c.o = 8 ∨ c.o = 9 ∨ c.o = 10 := by
  unfold PS.asksM Wi.asksC at h
  simp only [Bool.and_eq_true, Bool.or_eq_true, beq_iff_eq] at h
  exact h.1
theorem ask_any {w : World} {b : Nat} {S : St} {T : Nat → Prop} (h : Sch w b S T) (hok : Ok S) (c : Cm) (hc : CmOk c) :
    Calls Tryz.prog 35 #[.pointer (some ⟨b, 0, none⟩), cmV c] w (RetBelow (rpV (PS.ask S c)) w) := by
  obtain ⟨m0, m1, m2, h⟩ := h
  have hB := fun X (hX : Below w.heap.size w X) => h.below hX
  have hcc := fun X (hX : Below w.heap.size w X) => box_cells (hB X hX).box
  have HAS := asksAt (w := w) hc
  unfold PS.ask
  cases hm : asksM c with
  | false =>
    rw [hm] at HAS
    exact ask_no b _ _ _ _ _ _ _ w HAS
  | true =>
    rw [hm] at HAS
    rw [if_pos rfl]
    obtain ⟨o, s, t, x, y, z, n⟩ := c
    have hs := hc.s
    have ho := asksM_o hm
    dsimp only at *
    by_cases h8 : o = 8
    · subst h8
      rw [if_pos rfl]
      have HG := Lib.hid fun X (hX : Below w.heap.size w X) => getJ_any s X (hcc X hX).2.2 (hB X hX).j hs
      generalize hj : (findM S.J (kOf s)).getD PS.zj = j at *
      refine (ask_8 b (str s) (str t) x y z n _ (str j.s) (str j.t) j.p j.q j.r (str j.on) j.st w HAS HG).mono ?_
      rintro e w' (⟨h1, rfl, h3⟩ | ⟨h1, rfl, h3⟩)
      · cases hf : findM S.J (kOf s) with
        | none => rw [hf] at h1; cases h1
        | some q =>
          rw [hf] at hj
          obtain rfl : q = j := hj
          exact ⟨rfl, h3⟩
      · cases hf : findM S.J (kOf s) with
        | none => exact ⟨rfl, h3⟩
        | some q => rw [hf] at h1; cases h1
    · rw [if_neg h8]
      by_cases h9 : o = 9
      · subst h9
        rw [if_pos rfl]
        have HG := Lib.hid fun X (hX : Below w.heap.size w X) => getN_any s X (hcc X hX).1 (hB X hX).n hs
        generalize hj : (findM S.N (kOf s)).getD PS.zn = j at *
        refine (ask_9 b (str s) (str t) x y z n _ (str j.s) j.a j.b j.c j.x j.y j.z j.n j.d w HAS HG).mono ?_
        rintro e w' (⟨h1, rfl, h3⟩ | ⟨h1, rfl, h3⟩)
        · cases hf : findM S.N (kOf s) with
          | none => rw [hf] at h1; cases h1
          | some q =>
            rw [hf] at hj
            obtain rfl : q = j := hj
            exact ⟨rfl, h3⟩
        · cases hf : findM S.N (kOf s) with
          | none => exact ⟨rfl, h3⟩
          | some q => rw [hf] at h1; cases h1
      · obtain rfl : o = 10 := by omega
        rw [if_neg h9]
        have HG := Lib.hid fun X (hX : Below w.heap.size w X) => getT_any s X (hcc X hX).2.1 (hB X hX).t hs
        generalize hj : (findM S.T (kOf s)).getD PS.zt = j at *
        refine (ask_10 b (str s) (str t) x y z n _ (str j.s) j.a j.b j.c j.x j.y j.z j.n w HAS HG).mono ?_
        rintro e w' (⟨h1, rfl, h3⟩ | ⟨h1, rfl, h3⟩)
        · cases hf : findM S.T (kOf s) with
          | none => rw [hf] at h1; cases h1
          | some q =>
            rw [hf] at hj
            obtain rfl : q = j := hj
            exact ⟨rfl, h3⟩
        · cases hf : findM S.T (kOf s) with
          | none => exact ⟨rfl, h3⟩
          | some q => rw [hf] at h1; cases h1
theorem do_any {w : World} {b : Nat} {S : St} {T : Nat → Prop} (h : Sch w b S T) (hok : Ok S) (c : Cm) (hc : CmOk c) :
    Calls Tryz.prog 13 #[.pointer (some ⟨b, 0, none⟩), cmV c] w fun e w' => e = .returned (rpV (PS.doC S c).2) ∧ SchTo w w' b (PS.doC S c).1 T := by
  have hT := h.lt
  have HMY := mayAt (w := w) hc
  have fin : ∀ (RV : Value) (S' : St) (e : Ending) (w' : World), DoPost RV (fun X0 X1 => SchTo X0 X1 b S' T) w e w' → e = .returned RV ∧ SchTo w w' b S' T := by
    rintro RV S' e w' ⟨h1, X0, X3, h4, h5, h6, h7⟩
    exact ⟨h1, h5.only (fun q => by have := hT _ q; omega) h6 h7 h4 (by omega) hT⟩
  have HF : ∀ S' : St, Hid (∀ X0 X1, SchTo X0 X1 b S' T → (∀ k, w.heap.size ≤ k → k < X0.heap.size → X1.heap[k]? = X0.heap[k]?) ∧ X0.heap.size ≤ X1.heap.size) := fun S' => Lib.hid fun X0 X1 q => fr_boxes hT q
  unfold PS.doC
  cases hm : mayM c with
  | false =>
    rw [hm] at HMY
    refine (do_no b _ _ _ _ _ _ _ w HMY).mono ?_
    rintro e w' ⟨rfl, h3⟩
    exact ⟨rfl, h.to h3⟩
  | true =>
    rw [hm] at HMY
    rw [if_pos rfl]
    obtain ⟨o, s, t, x, y, z, n⟩ := c
    have hs := hc.s
    have ht := hc.t
    dsimp only at *
    by_cases h1 : o = 1
    · subst h1
      rw [if_pos rfl]
      exact (do_1 b (str s) (str t) x y z n _ _ w HMY (Lib.hid fun X hX => setNode_any (h.below hX) hok ⟨1, s, t, x, y, z, n⟩ hs) (HF _)).mono fun e w' q => fin _ _ e w' q
    rw [if_neg h1]
    by_cases h2 : o = 2
    · subst h2
      rw [if_pos rfl]
      exact (do_2 b (str s) (str t) x y z n _ _ w HMY (Lib.hid fun X hX => drain_any (h.below hX) hok ⟨2, s, t, x, y, z, n⟩ hs) (HF _)).mono fun e w' q => fin _ _ e w' q
    rw [if_neg h2]
    by_cases h3 : o = 3
    · subst h3
      rw [if_pos rfl]
      exact (do_3 b (str s) (str t) x y z n _ _ w HMY (Lib.hid fun X hX => drop_any (h.below hX) hok ⟨3, s, t, x, y, z, n⟩ hs) (HF _)).mono fun e w' q => fin _ _ e w' q
    rw [if_neg h3]
    by_cases h4 : o = 4
    · subst h4
      rw [if_pos rfl]
      exact (do_4 b (str s) (str t) x y z n _ _ w HMY (Lib.hid fun X hX => setTenant_any (h.below hX) hok ⟨4, s, t, x, y, z, n⟩ hs) (HF _)).mono fun e w' q => fin _ _ e w' q
    rw [if_neg h4]
    by_cases h5 : o = 5
    · subst h5
      rw [if_pos rfl]
      exact (do_5 b (str s) (str t) x y z n _ _ _ _ _ _ _ w HMY (Lib.hid fun X hX => submit_any (h.below hX) hok ⟨5, s, t, x, y, z, n⟩ hc) (HF _)).mono fun e w' q => fin _ _ e w' q
    rw [if_neg h5]
    by_cases h6 : o = 6
    · subst h6
      rw [if_pos rfl]
      exact (do_6 b (str s) (str t) x y z n _ _ _ _ _ _ _ w HMY (Lib.hid fun X hX => kill_any (h.below hX) hok ⟨6, s, t, x, y, z, n⟩ hs) (HF _)).mono fun e w' q => fin _ _ e w' q
    rw [if_neg h6]
    by_cases h7 : o = 7
    · subst h7
      rw [if_pos rfl]
      exact (do_7 b (str s) (str t) x y z n _ _ w HMY (Lib.hid fun X hX => report_any (h.below hX) hok ⟨7, s, t, x, y, z, n⟩ hs ht) (HF _)).mono fun e w' q => fin _ _ e w' q
    rw [if_neg h7]
    exact (do_8 b o (str s) (str t) x y z n _ _ _ _ _ _ _ w (Lib.hid ⟨h1, h2, h3, h4, h5, h6, h7⟩) HMY (Lib.hid fun X hX => (ask_any (h.below hX) hok ⟨o, s, t, x, y, z, n⟩ hc).mono fun e w' q => ⟨q.1, (h.below hX).to q.2⟩) (HF _)).mono fun e w' q => fin _ _ e w' q
end Go.Proofs.YtphclpjekpdifaaGreat
namespace Go.Proofs.YtphclpjekpdifaaGreat
set_option maxRecDepth 20000
open Go.RowKit
open PS (Tx putM dropM setM findM Nod Ten Jb kOf St Cm Rp byName row mayM els num txt zI vOf done)
open Wi.Pl (It)
open Go.Proofs.YtphclpjekpdifaaGreat.Nm (str)
open Go.Proofs.YtphclpjekpdifaaGreat.Vc (RetBelow fitB I64)
set_option linter.unusedVariables false
theorem IsIt.form {w : World} {S : Nat → Prop} {t : It} {v : Value} (h : Wi.IsIt w S t v) : ∃ k s A c, v = .agg #[.int .i64 k, .int .i64 (num t), .string s, .slice A (els t).length c] ∧ s.data.toList = txt t ∧ Wi.InR (num t) ∧ s.size ≤ maxLen ∧ (els t).length ≤ maxLen ∧ Wi.AreIts w S (els t) A 0 := by
  obtain ⟨k, n, s, l⟩ := t
  rw [Wi.IsIt] at h
  obtain ⟨A, c, h1, h2, h3, h4, h5, h6⟩ := h
  exact ⟨k, s, A, c, h1, rfl, h3, h4, h5, h6⟩
theorem isIt_zero (w : World) (S : Nat → Prop) : Wi.IsIt w S zI (.agg #[.int .i64 0, .int .i64 0, .string ⟨#[]⟩, .slice none 0 0]) := by
  unfold PS.zI
  rw [Wi.IsIt]
  exact ⟨none, 0, rfl, ⟨by omega, by omega⟩, ⟨by omega, by omega⟩, by simp [Wi.zero_size], by simp, by rw [Wi.AreIts]; trivial⟩
set_option maxHeartbeats 1000000 in
theorem part_no (k n : Int) (s : ByteArray) (A : Option Addr) (m c j : Nat) (hj : ¬ j < m) (w : World) :
    Calls Tryz.prog 102 #[.agg #[.int .i64 k, .int .i64 n, .string s, .slice A m c], .int .i64 (j : Int)] w (RetBelow (.agg #[.int .i64 0, .int .i64 0, .string ⟨#[]⟩, .slice none 0 0]) w) := by
  have h1 : decide ((j : Int) < 0) = false := by simp
  have h2 : decide ((m : Int) ≤ (j : Int)) = true := by simp; omega
  have h3 : decide (m ≤ j) = true := by simp; omega
  have hbd : ∀ W : World, (Instr.build 111 #[]).run Tryz.prog W = .ok (.agg #[.int .i64 0, .int .i64 0, .string ⟨#[]⟩, .slice none 0 0]) W := fun W => run_build W 111 _ _ (by kernel_rfl)
  have HB := Lib.hid (below_2 w (.cells #[.int .i64 k, .int .i64 n, .string s, .slice A m c] 111) (.cells #[.int .i64 0, .int .i64 0, .string ⟨#[]⟩, .slice none 0 0] 111))
  have HR := Lib.hid (show ((w.alloc (.cells #[.int .i64 k, .int .i64 n, .string s, .slice A m c] 111)).alloc (.cells #[.int .i64 0, .int .i64 0, .string ⟨#[]⟩, .slice none 0 0] 111)).heap[w.heap.size]? = some (.cells #[.int .i64 k, .int .i64 n, .string s, .slice A m c] 111 (0, 0)) from (Below.heap_alloc _ _ _ (by simp)).trans (heap_alloc_new w _))
  obtain ⟨p0, p1, p2, p3, _⟩ := Wi.row4 HR.out
  go_enter Tryz.func102, Tryz.ntmps102
  go_wp2_with fail
  refine bodyPost_ret (v := .agg #[.int .i64 0, .int .i64 0, .string ⟨#[]⟩, .slice none 0 0]) (by simp [results, Tryz.results102, go_sem]) rfl ⟨rfl, ?_⟩
  exact HB.out
set_option maxHeartbeats 1000000 in
theorem part_yes (k n : Int) (s : ByteArray) (b off m c j : Nat) (hj : j < m) (k2 n2 : Int) (s2 : ByteArray) (A2 : Option Addr) (m2 c2 : Nat) (w : World) (hb : b < w.heap.size)
    (h0 : w.cell? ⟨b, off + j * 4, none⟩ = some (.int .i64 k2)) (h1 : w.cell? ⟨b, off + j * 4 + 1, none⟩ = some (.int .i64 n2)) (h2 : w.cell? ⟨b, off + j * 4 + 2, none⟩ = some (.string s2)) (h3 : w.cell? ⟨b, off + j * 4 + 3, none⟩ = some (.slice A2 m2 c2)) :
    Calls Tryz.prog 102 #[.agg #[.int .i64 k, .int .i64 n, .string s, .slice (some ⟨b, off, none⟩) m c], .int .i64 (j : Int)] w (RetBelow (.agg #[.int .i64 k2, .int .i64 n2, .string s2, .slice A2 m2 c2]) w) := by
  have g1 : decide ((j : Int) < 0) = false := by simp
  have g2 : decide ((m : Int) ≤ (j : Int)) = false := by simp; omega
  have g3 : decide (m ≤ j) = false := by simp; omega
  have HB := Lib.hid (below_2 w (.cells #[.int .i64 k, .int .i64 n, .string s, .slice (some ⟨b, off, none⟩) m c] 111) (.cells #[.int .i64 0, .int .i64 0, .string ⟨#[]⟩, .slice none 0 0] 111))
  have HR := Lib.hid (show ((w.alloc (.cells #[.int .i64 k, .int .i64 n, .string s, .slice (some ⟨b, off, none⟩) m c] 111)).alloc (.cells #[.int .i64 0, .int .i64 0, .string ⟨#[]⟩, .slice none 0 0] 111)).heap[w.heap.size]? = some (.cells #[.int .i64 k, .int .i64 n, .string s, .slice (some ⟨b, off, none⟩) m c] 111 (0, 0)) from (Below.heap_alloc _ _ _ (by simp)).trans (heap_alloc_new w _))
  obtain ⟨p0, p1, p2, p3, _⟩ := Wi.row4 HR.out
  have e0 := cellB h0 HB.out hb
  have e1 := cellB h1 HB.out hb
  have e2 := cellB h2 HB.out hb
  have e3 := cellB h3 HB.out hb
  clear h0 h1 h2 h3
  go_enter Tryz.func102, Tryz.ntmps102
  go_wp2_with fail
  refine bodyPost_ret (v := .agg #[.int .i64 k2, .int .i64 n2, .string s2, .slice A2 m2 c2]) (by simp [results, Tryz.results102, go_sem]) rfl ⟨rfl, ?_⟩
  exact below_2 w _ _
theorem fld1 (k n : Int) (s : ByteArray) (A : Option Addr) (m c : Nat) (w : World) : (Instr.field 111 (.agg #[.int .i64 k, .int .i64 n, .string s, .slice A m c]) 1).run Tryz.prog w = .ok (.int .i64 n) w := by kernel_rfl
theorem fld2 (k n : Int) (s : ByteArray) (A : Option Addr) (m c : Nat) (w : World) : (Instr.field 111 (.agg #[.int .i64 k, .int .i64 n, .string s, .slice A m c]) 2).run Tryz.prog w = .ok (.string s) w := by kernel_rfl
theorem fld3 (k n : Int) (s : ByteArray) (A : Option Addr) (m c : Nat) (w : World) : (Instr.field 111 (.agg #[.int .i64 k, .int .i64 n, .string s, .slice A m c]) 3).run Tryz.prog w = .ok (.slice A m c) w := by kernel_rfl
theorem fldE (e : Int) (s : ByteArray) (a b c n : Int) (w : World) : (Instr.field 30 (.agg #[.int .i64 e, .string s, .int .i64 a, .int .i64 b, .int .i64 c, .int .i64 n]) 0).run Tryz.prog w = .ok (.int .i64 e) w := by kernel_rfl
theorem row3f {w : World} {b : Nat} {a0 a1 a2 : Value} {t : TypeId} (h : w.heap[b]? = some (.cells #[a0, a1, a2] t (0, 0))) : w.cell? ⟨b, 0, none⟩ = some a0 ∧ w.cell? ⟨b, 1, none⟩ = some a1 ∧ w.cell? ⟨b, 2, none⟩ = some a2 ∧ w.frozen? ⟨b, 0, none⟩ = false ∧ w.frozen? ⟨b, 1, none⟩ = false ∧ w.frozen? ⟨b, 2, none⟩ = false := by
  refine ⟨?_, ?_, ?_, ?_, ?_, ?_⟩
  all_goals first | exact Lib.frozen_of_heap h _ | (rw [Lib.cell_of_heap h]; rfl)
theorem vecof_core (k0 k1 k2 n0 n1 n2 : Int) (s0 s1 s2 : ByteArray) (A0 A1 A2 : Option Addr) (m0 m1 m2 c0 c1 c2 : Nat) (k n : Int) (s : ByteArray) (A : Option Addr) (m c : Nat) (w : World)
    (h0 : Hid (∀ X, Below w.heap.size w X → Calls Tryz.prog 102 #[.agg #[.int .i64 k, .int .i64 n, .string s, .slice A m c], .int .i64 0] X (RetBelow (.agg #[.int .i64 k0, .int .i64 n0, .string s0, .slice A0 m0 c0]) X)))
    (h1 : Hid (∀ X, Below w.heap.size w X → Calls Tryz.prog 102 #[.agg #[.int .i64 k, .int .i64 n, .string s, .slice A m c], .int .i64 1] X (RetBelow (.agg #[.int .i64 k1, .int .i64 n1, .string s1, .slice A1 m1 c1]) X)))
    (h2 : Hid (∀ X, Below w.heap.size w X → Calls Tryz.prog 102 #[.agg #[.int .i64 k, .int .i64 n, .string s, .slice A m c], .int .i64 2] X (RetBelow (.agg #[.int .i64 k2, .int .i64 n2, .string s2, .slice A2 m2 c2]) X))) :
    Calls Tryz.prog 104 #[.agg #[.int .i64 k, .int .i64 n, .string s, .slice A m c]] w (RetBelow (.agg #[.int .i64 n0, .int .i64 n1, .int .i64 n2]) w) := by
  have HB0 := (((below_2 w (.cells #[.int .i64 k, .int .i64 n, .string s, .slice A m c] 111) (.cells #[.int .i64 0, .int .i64 0, .int .i64 0] 28))).alloc (by simp; omega) (.cells #[.int .i64 0, .int .i64 0, .int .i64 0] 28))
  have HX0 : (((w.alloc (.cells #[.int .i64 k, .int .i64 n, .string s, .slice A m c] 111)).alloc (.cells #[.int .i64 0, .int .i64 0, .int .i64 0] 28)).alloc (.cells #[.int .i64 0, .int .i64 0, .int .i64 0] 28)).heap[w.heap.size]? = some (.cells #[.int .i64 k, .int .i64 n, .string s, .slice A m c] 111 (0, 0)) := (Below.heap_alloc _ _ _ (by simp; omega)).trans ((Below.heap_alloc _ _ _ (by simp)).trans (heap_alloc_new w _))
  have HR0 : (((w.alloc (.cells #[.int .i64 k, .int .i64 n, .string s, .slice A m c] 111)).alloc (.cells #[.int .i64 0, .int .i64 0, .int .i64 0] 28)).alloc (.cells #[.int .i64 0, .int .i64 0, .int .i64 0] 28)).heap[w.heap.size + 1]? = some (.cells #[.int .i64 0, .int .i64 0, .int .i64 0] 28 (0, 0)) := (Below.heap_alloc _ _ _ (by simp)).trans (by have := heap_alloc_new (w.alloc (.cells #[.int .i64 k, .int .i64 n, .string s, .slice A m c] 111)) (.cells #[.int .i64 0, .int .i64 0, .int .i64 0] 28); rwa [show (w.alloc (.cells #[.int .i64 k, .int .i64 n, .string s, .slice A m c] 111)).heap.size = w.heap.size + 1 from by simp] at this)
  have HA0 : (((w.alloc (.cells #[.int .i64 k, .int .i64 n, .string s, .slice A m c] 111)).alloc (.cells #[.int .i64 0, .int .i64 0, .int .i64 0] 28)).alloc (.cells #[.int .i64 0, .int .i64 0, .int .i64 0] 28)).heap[w.heap.size + 2]? = some (.cells #[.int .i64 0, .int .i64 0, .int .i64 0] 28 (0, 0)) := by have := heap_alloc_new ((w.alloc (.cells #[.int .i64 k, .int .i64 n, .string s, .slice A m c] 111)).alloc (.cells #[.int .i64 0, .int .i64 0, .int .i64 0] 28)) (.cells #[.int .i64 0, .int .i64 0, .int .i64 0] 28); rwa [show ((w.alloc (.cells #[.int .i64 k, .int .i64 n, .string s, .slice A m c] 111)).alloc (.cells #[.int .i64 0, .int .i64 0, .int .i64 0] 28)).heap.size = w.heap.size + 2 from by simp] at this
  have hfd := fld1
  go_enter Tryz.func104, Tryz.ntmps104
  go_wp2_with fail
  refine wp_loop_rounds 4 ?_
  refine Wi.rounds_forget (fun W => Below w.heap.size w W ∧ W.heap[w.heap.size]? = some (.cells #[.int .i64 k, .int .i64 n, .string s, .slice A m c] 111 (0, 0)) ∧ W.heap[w.heap.size + 1]? = some (.cells #[.int .i64 0, .int .i64 0, .int .i64 0] 28 (0, 0)) ∧ W.heap[w.heap.size + 2]? = some (.cells #[.int .i64 0, .int .i64 0, .int .i64 0] 28 (0, 0))) ⟨HB0, HX0, HR0, HA0⟩ ?_
  rintro V0 ⟨b0, x0, r0, q0⟩
  have HW0 := Lib.hid b0
  have HX0 := Lib.hid x0
  have HR0 := Lib.hid r0
  have HA0 := Lib.hid q0
  clear b0 x0 r0 q0
  obtain ⟨p0, p1, p2, p3, _⟩ := Wi.row4 HX0.out
  rw [rounds_succ]
  go_wp2_with (first | (go_at_call 102; (with_reducible refine (h0.out _ HW0.out).mono ?_); rintro e w1 ⟨rfl, hb⟩; have HV1 := Lib.hid (HW0.out.trans (hb.mono HW0.out.size)); have HX10 := Lib.hid ((hb.block w.heap.size (Array.getElem?_eq_some_iff.1 HX0.out).1).trans HX0.out); have HA10 := Lib.hid ((hb.block (w.heap.size + 2) (Array.getElem?_eq_some_iff.1 HA0.out).1).trans HA0.out); have HR10 := Lib.hid ((hb.block (w.heap.size + 1) (Array.getElem?_eq_some_iff.1 HR0.out).1).trans HR0.out); clear hb p0 p1 p2 p3; obtain ⟨a0, a1, a2, f0, f1, f2⟩ := row3f HA10.out))
  have HT1 : Hid ((w1.setCell ⟨w.heap.size + 2, 0, none⟩ (.int .i64 n0)).heap[w.heap.size + 2]? = some (.cells #[.int .i64 n0, .int .i64 0, .int .i64 0] 28 (0, 0))) := Lib.hid (by have := Wi.heap_set w1 (w.heap.size + 2) 0 (.int .i64 n0) _ _ HA10.out; simpa only [List.setIfInBounds_toArray, List.set_cons_zero, List.set_cons_succ] using this)
  have HS1 : Hid (Below w.heap.size w (w1.setCell ⟨w.heap.size + 2, 0, none⟩ (.int .i64 n0))) := Lib.hid (HV1.out.setCell (p := ⟨w.heap.size + 2, 0, none⟩) (by show w.heap.size ≤ w.heap.size + 2; omega) _)
  have HQ1 : Hid ((w1.setCell ⟨w.heap.size + 2, 0, none⟩ (.int .i64 n0)).heap[w.heap.size + 1]? = some (.cells #[.int .i64 0, .int .i64 0, .int .i64 0] 28 (0, 0))) := Lib.hid ((Below.heap_setCell _ _ _ _ (by show w.heap.size + 1 ≠ w.heap.size + 2; omega)).trans HR10.out)
  replace HX10 : Hid ((w1.setCell ⟨w.heap.size + 2, 0, none⟩ (.int .i64 n0)).heap[w.heap.size]? = some (.cells #[.int .i64 k, .int .i64 n, .string s, .slice A m c] 111 (0, 0))) := Lib.hid ((Below.heap_setCell _ _ _ _ (by show w.heap.size ≠ w.heap.size + 2; omega)).trans HX10.out)
  refine Wi.rounds_forget (fun W => Below w.heap.size w W ∧ W.heap[w.heap.size]? = some (.cells #[.int .i64 k, .int .i64 n, .string s, .slice A m c] 111 (0, 0)) ∧ W.heap[w.heap.size + 1]? = some (.cells #[.int .i64 0, .int .i64 0, .int .i64 0] 28 (0, 0)) ∧ W.heap[w.heap.size + 2]? = some (.cells #[.int .i64 n0, .int .i64 0, .int .i64 0] 28 (0, 0))) ⟨HS1.out, HX10.out, HQ1.out, HT1.out⟩ ?_
  rintro V1 ⟨b0, x0, r0, q0⟩
  have HW1 := Lib.hid b0
  have HX1 := Lib.hid x0
  have HR1 := Lib.hid r0
  have HA1 := Lib.hid q0
  clear b0 x0 r0 q0
  obtain ⟨p0, p1, p2, p3, _⟩ := Wi.row4 HX1.out
  rw [rounds_succ]
  go_wp2_with (first | (go_at_call 102; (with_reducible refine (h1.out _ HW1.out).mono ?_); rintro e w2 ⟨rfl, hb⟩; have HV2 := Lib.hid (HW1.out.trans (hb.mono HW1.out.size)); have HX11 := Lib.hid ((hb.block w.heap.size (Array.getElem?_eq_some_iff.1 HX1.out).1).trans HX1.out); have HA11 := Lib.hid ((hb.block (w.heap.size + 2) (Array.getElem?_eq_some_iff.1 HA1.out).1).trans HA1.out); have HR11 := Lib.hid ((hb.block (w.heap.size + 1) (Array.getElem?_eq_some_iff.1 HR1.out).1).trans HR1.out); clear hb p0 p1 p2 p3; obtain ⟨a0, a1, a2, f0, f1, f2⟩ := row3f HA11.out))
  have HT2 : Hid ((w2.setCell ⟨w.heap.size + 2, 1, none⟩ (.int .i64 n1)).heap[w.heap.size + 2]? = some (.cells #[.int .i64 n0, .int .i64 n1, .int .i64 0] 28 (0, 0))) := Lib.hid (by have := Wi.heap_set w2 (w.heap.size + 2) 1 (.int .i64 n1) _ _ HA11.out; simpa only [List.setIfInBounds_toArray, List.set_cons_zero, List.set_cons_succ] using this)
  have HS2 : Hid (Below w.heap.size w (w2.setCell ⟨w.heap.size + 2, 1, none⟩ (.int .i64 n1))) := Lib.hid (HV2.out.setCell (p := ⟨w.heap.size + 2, 1, none⟩) (by show w.heap.size ≤ w.heap.size + 2; omega) _)
  have HQ2 : Hid ((w2.setCell ⟨w.heap.size + 2, 1, none⟩ (.int .i64 n1)).heap[w.heap.size + 1]? = some (.cells #[.int .i64 0, .int .i64 0, .int .i64 0] 28 (0, 0))) := Lib.hid ((Below.heap_setCell _ _ _ _ (by show w.heap.size + 1 ≠ w.heap.size + 2; omega)).trans HR11.out)
  replace HX11 : Hid ((w2.setCell ⟨w.heap.size + 2, 1, none⟩ (.int .i64 n1)).heap[w.heap.size]? = some (.cells #[.int .i64 k, .int .i64 n, .string s, .slice A m c] 111 (0, 0))) := Lib.hid ((Below.heap_setCell _ _ _ _ (by show w.heap.size ≠ w.heap.size + 2; omega)).trans HX11.out)
  refine Wi.rounds_forget (fun W => Below w.heap.size w W ∧ W.heap[w.heap.size]? = some (.cells #[.int .i64 k, .int .i64 n, .string s, .slice A m c] 111 (0, 0)) ∧ W.heap[w.heap.size + 1]? = some (.cells #[.int .i64 0, .int .i64 0, .int .i64 0] 28 (0, 0)) ∧ W.heap[w.heap.size + 2]? = some (.cells #[.int .i64 n0, .int .i64 n1, .int .i64 0] 28 (0, 0))) ⟨HS2.out, HX11.out, HQ2.out, HT2.out⟩ ?_
  rintro V2 ⟨b0, x0, r0, q0⟩
  have HW2 := Lib.hid b0
  have HX2 := Lib.hid x0
  have HR2 := Lib.hid r0
  have HA2 := Lib.hid q0
  clear b0 x0 r0 q0
  obtain ⟨p0, p1, p2, p3, _⟩ := Wi.row4 HX2.out
  rw [rounds_succ]
  go_wp2_with (first | (go_at_call 102; (with_reducible refine (h2.out _ HW2.out).mono ?_); rintro e w3 ⟨rfl, hb⟩; have HV3 := Lib.hid (HW2.out.trans (hb.mono HW2.out.size)); have HX12 := Lib.hid ((hb.block w.heap.size (Array.getElem?_eq_some_iff.1 HX2.out).1).trans HX2.out); have HA12 := Lib.hid ((hb.block (w.heap.size + 2) (Array.getElem?_eq_some_iff.1 HA2.out).1).trans HA2.out); have HR12 := Lib.hid ((hb.block (w.heap.size + 1) (Array.getElem?_eq_some_iff.1 HR2.out).1).trans HR2.out); clear hb p0 p1 p2 p3; obtain ⟨a0, a1, a2, f0, f1, f2⟩ := row3f HA12.out))
  have HT3 : Hid ((w3.setCell ⟨w.heap.size + 2, 2, none⟩ (.int .i64 n2)).heap[w.heap.size + 2]? = some (.cells #[.int .i64 n0, .int .i64 n1, .int .i64 n2] 28 (0, 0))) := Lib.hid (by have := Wi.heap_set w3 (w.heap.size + 2) 2 (.int .i64 n2) _ _ HA12.out; simpa only [List.setIfInBounds_toArray, List.set_cons_zero, List.set_cons_succ] using this)
  have HS3 : Hid (Below w.heap.size w (w3.setCell ⟨w.heap.size + 2, 2, none⟩ (.int .i64 n2))) := Lib.hid (HV3.out.setCell (p := ⟨w.heap.size + 2, 2, none⟩) (by show w.heap.size ≤ w.heap.size + 2; omega) _)
  have HQ3 : Hid ((w3.setCell ⟨w.heap.size + 2, 2, none⟩ (.int .i64 n2)).heap[w.heap.size + 1]? = some (.cells #[.int .i64 0, .int .i64 0, .int .i64 0] 28 (0, 0))) := Lib.hid ((Below.heap_setCell _ _ _ _ (by show w.heap.size + 1 ≠ w.heap.size + 2; omega)).trans HR12.out)
  replace HX12 : Hid ((w3.setCell ⟨w.heap.size + 2, 2, none⟩ (.int .i64 n2)).heap[w.heap.size]? = some (.cells #[.int .i64 k, .int .i64 n, .string s, .slice A m c] 111 (0, 0))) := Lib.hid ((Below.heap_setCell _ _ _ _ (by show w.heap.size ≠ w.heap.size + 2; omega)).trans HX12.out)
  refine Wi.rounds_forget (fun W => Below w.heap.size w W ∧ W.heap[w.heap.size + 1]? = some (.cells #[.int .i64 0, .int .i64 0, .int .i64 0] 28 (0, 0)) ∧ W.heap[w.heap.size + 2]? = some (.cells #[.int .i64 n0, .int .i64 n1, .int .i64 n2] 28 (0, 0))) ⟨HS3.out, HQ3.out, HT3.out⟩ ?_
  rintro V3 ⟨b0, r0, q0⟩
  have HW3 := Lib.hid b0
  have HR3 := Lib.hid r0
  clear b0 r0
  obtain ⟨a0, a1, a2, _⟩ := row3f q0
  clear q0
  obtain ⟨y0, y1, y2, g0, g1, g2⟩ := row3f HR3.out
  rw [rounds_succ]
  go_wp2_with fail
  have R : Hid ((((V3.setCell ⟨w.heap.size + 1, 0, none⟩ (.int .i64 n0)).setCell ⟨w.heap.size + 1, 1, none⟩ (.int .i64 n1)).setCell ⟨w.heap.size + 1, 2, none⟩ (.int .i64 n2)).heap[w.heap.size + 1]? = some (.cells #[.int .i64 n0, .int .i64 n1, .int .i64 n2] 28 (0, 0))) := Lib.hid (by
    have h0 := Wi.heap_set V3 (w.heap.size + 1) 0 (.int .i64 n0) _ _ HR3.out
    have h1 := Wi.heap_set _ (w.heap.size + 1) 1 (.int .i64 n1) _ _ h0
    have h2 := Wi.heap_set _ (w.heap.size + 1) 2 (.int .i64 n2) _ _ h1
    simpa only [List.setIfInBounds_toArray, List.set_cons_zero, List.set_cons_succ] using h2)
  have F : Hid (Below w.heap.size w (((V3.setCell ⟨w.heap.size + 1, 0, none⟩ (.int .i64 n0)).setCell ⟨w.heap.size + 1, 1, none⟩ (.int .i64 n1)).setCell ⟨w.heap.size + 1, 2, none⟩ (.int .i64 n2))) := Lib.hid (((HW3.out.setCell (p := ⟨w.heap.size + 1, 0, none⟩) (Nat.le_succ w.heap.size) _).setCell (p := ⟨w.heap.size + 1, 1, none⟩) (Nat.le_succ w.heap.size) _).setCell (p := ⟨w.heap.size + 1, 2, none⟩) (Nat.le_succ w.heap.size) _)
  generalize (((V3.setCell ⟨w.heap.size + 1, 0, none⟩ (.int .i64 n0)).setCell ⟨w.heap.size + 1, 1, none⟩ (.int .i64 n1)).setCell ⟨w.heap.size + 1, 2, none⟩ (.int .i64 n2)) = W at *
  obtain ⟨y0, y1, y2, _⟩ := row3f R.out
  exact bodyPost_ret (v := .agg #[.int .i64 n0, .int .i64 n1, .int .i64 n2]) (by simp [results, Tryz.results104, go_sem, y0, y1, y2]) rfl ⟨rfl, F.out⟩
set_option maxHeartbeats 1000000 in
theorem done_core (b : Nat) (co : Int) (cS cT : ByteArray) (p q r cn : Int) (E : Int) (rs : ByteArray) (ra rb rc rn : Int) (R : World → World → Prop) (w : World)
    (HC : Hid (∀ X, Below w.heap.size w X → Calls Tryz.prog 13 #[.pointer (some ⟨b, 0, none⟩), .agg #[.int .i64 co, .string cS, .string cT, .int .i64 p, .int .i64 q, .int .i64 r, .int .i64 cn]] X fun e w' => e = .returned (.agg #[.int .i64 E, .string rs, .int .i64 ra, .int .i64 rb, .int .i64 rc, .int .i64 rn]) ∧ R X w')) :
    Calls Tryz.prog 103 #[.pointer (some ⟨b, 0, none⟩), .agg #[.int .i64 co, .string cS, .string cT, .int .i64 p, .int .i64 q, .int .i64 r, .int .i64 cn]] w fun e w' => e = .returned (.bool (E == 0)) ∧ ∃ X0, Below w.heap.size w X0 ∧ R X0 w' := by
  have hfd := fldE
  have HB := Lib.hid ((Below.refl w.heap.size w).alloc (Nat.le_refl _) (.cells #[.int .i64 co, .string cS, .string cT, .int .i64 p, .int .i64 q, .int .i64 r, .int .i64 cn] 33))
  obtain ⟨p0, p1, p2, p3, p4, p5, p6, _⟩ := rowc7 (heap_alloc_new w (.cells #[.int .i64 co, .string cS, .string cT, .int .i64 p, .int .i64 q, .int .i64 r, .int .i64 cn] 33))
  go_enter Tryz.func103, Tryz.ntmps103
  go_wp2_with (first | (go_at_call 13; (with_reducible refine (HC.out _ HB.out).mono ?_); rintro e w1 ⟨rfl, hP⟩; have HP := Lib.hid hP; clear hP p0 p1 p2 p3 p4 p5 p6))
  go_ret
  exact ⟨rfl, _, HB.out, HP.out⟩
theorem done_any {w : World} {b : Nat} {S : St} {T : Nat → Prop} (h : Sch w b S T) (hok : Ok S) (c : Cm) (hc : CmOk c) :
    Calls Tryz.prog 103 #[.pointer (some ⟨b, 0, none⟩), cmV c] w fun e w' => e = .returned (.bool (done S c).2) ∧ SchTo w w' b (done S c).1 T := by
  refine (done_core b c.o (str c.s) (str c.t) c.a c.b c.c c.n _ _ _ _ _ _ (fun X0 X1 => SchTo X0 X1 b (PS.doC S c).1 T) w (Lib.hid fun X hX => do_any (h.below hX) hok c hc)).mono ?_
  rintro e w' ⟨he, X0, h0, h1⟩
  exact ⟨he, SchTo.from_ h0 h1⟩
end Go.Proofs.YtphclpjekpdifaaGreat
