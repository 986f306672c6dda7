import Derived.Test.YtiedeneglhboiaaLb
namespace Go.Proofs.Ytiedeneglhboiaa
open Go.RowKit Pl
set_option linter.unusedVariables false
set_option maxRecDepth 20000
set_option maxHeartbeats 1000000 in
theorem back_TTTT (X Y L : ByteArray) (o : Int) (s t : ByteArray) (a b c n : Int) (o1 : Int) (s1 : ByteArray) (a1 b1 c1 n1 : Int) (o2 : Int) (s2 t2 : ByteArray) (a2 b2 c2 n2 : Int) (o3 : Int) (s3 : ByteArray) (a3 b3 c3 n3 : Int) (w : World)
    (h1 : ∀ W, Calls Try.prog 11 #[.agg #[.int .i64 o, .string s, .string t, .int .i64 a, .int .i64 b, .int .i64 c, .int .i64 n]] W (RetBelow (.tuple #[.string X, .int .i64 0]) W))
    (h2 : ∀ W, Calls Try.prog 17 #[.string X] W (RetBelow (.tuple #[.agg #[.int .i64 o, .string s, .string t, .int .i64 a, .int .i64 b, .int .i64 c, .int .i64 n], .int .i64 0]) W))
    (h3 : ∀ W, Calls Try.prog 13 #[.agg #[.int .i64 o, .string s, .string t, .int .i64 a, .int .i64 b, .int .i64 c, .int .i64 n]] W (RetBelow (.bool true) W))
    (h4 : ∀ W, Calls Try.prog 21 #[.agg #[.int .i64 o1, .string s1, .int .i64 a1, .int .i64 b1, .int .i64 c1, .int .i64 n1]] W (RetBelow (.tuple #[.string Y, .int .i64 0]) W))
    (h5 : ∀ W, Calls Try.prog 19 #[.string Y] W (RetBelow (.tuple #[.agg #[.int .i64 o1, .string s1, .int .i64 a1, .int .i64 b1, .int .i64 c1, .int .i64 n1], .int .i64 0]) W))
    (h6 : ∀ W, Calls Try.prog 17 #[.string L] W (RetBelow (.tuple #[.agg #[.int .i64 o2, .string s2, .string t2, .int .i64 a2, .int .i64 b2, .int .i64 c2, .int .i64 n2], .int .i64 0]) W))
    (h7 : ∀ W, Calls Try.prog 11 #[.agg #[.int .i64 o2, .string s2, .string t2, .int .i64 a2, .int .i64 b2, .int .i64 c2, .int .i64 n2]] W (RetBelow (.tuple #[.string L, .int .i64 0]) W))
    (h8 : ∀ W, Calls Try.prog 19 #[.string L] W (RetBelow (.tuple #[.agg #[.int .i64 o3, .string s3, .int .i64 a3, .int .i64 b3, .int .i64 c3, .int .i64 n3], .int .i64 0]) W))
    (h9 : ∀ W, Calls Try.prog 21 #[.agg #[.int .i64 o3, .string s3, .int .i64 a3, .int .i64 b3, .int .i64 c3, .int .i64 n3]] W (RetBelow (.tuple #[.string L, .int .i64 0]) W)) :
    Calls Try.prog 6 #[.agg #[.int .i64 o, .string s, .string t, .int .i64 a, .int .i64 b, .int .i64 c, .int .i64 n], .agg #[.int .i64 o1, .string s1, .int .i64 a1, .int .i64 b1, .int .i64 c1, .int .i64 n1], .string L] w (RetBelow (.bool true) w) := by
  have H1 := Lib.hid h1
  have H2 := Lib.hid h2
  have H3 := Lib.hid h3
  have H4 := Lib.hid h4
  have H5 := Lib.hid h5
  have H6 := Lib.hid h6
  have H7 := Lib.hid h7
  have H8 := Lib.hid h8
  have H9 := Lib.hid h9
  have HAW := Lib.hid awakeC_any
  clear h1 h2 h3 h4 h5 h6 h7 h8 h9
  have q1 : ∀ V : World, (binOp .neq 25 (.agg #[.int .i64 o, .string s, .string t, .int .i64 a, .int .i64 b, .int .i64 c, .int .i64 n]) (.agg #[.int .i64 o, .string s, .string t, .int .i64 a, .int .i64 b, .int .i64 c, .int .i64 n])).run Try.prog V = .ok (.bool false) V := fun V => by rw [neq25v, eqC_self]; rfl
  have q2 : ∀ V : World, (binOp .neq 34 (.agg #[.int .i64 o1, .string s1, .int .i64 a1, .int .i64 b1, .int .i64 c1, .int .i64 n1]) (.agg #[.int .i64 o1, .string s1, .int .i64 a1, .int .i64 b1, .int .i64 c1, .int .i64 n1])).run Try.prog V = .ok (.bool false) V := fun V => by rw [neq34v, eqR_self]; rfl
  have q3 : ∀ V : World, (binOp .eql 34 (.agg #[.int .i64 0, .string ⟨#[]⟩, .int .i64 0, .int .i64 0, .int .i64 0, .int .i64 0]) (.agg #[.int .i64 0, .string ⟨#[]⟩, .int .i64 0, .int .i64 0, .int .i64 0, .int .i64 0])).run Try.prog V = .ok (.bool true) V := fun V => by rw [eq34v, eqR_self]
  have q4 : ∀ V : World, (Instr.build 34 #[]).run Try.prog V = .ok (.agg #[.int .i64 0, .string ⟨#[]⟩, .int .i64 0, .int .i64 0, .int .i64 0, .int .i64 0]) V := fun V => run_build V 34 _ _ (by kernel_rfl)
  obtain ⟨W, hW⟩ : ∃ W, (w.alloc (.cells #[.int .i64 o, .string s, .string t, .int .i64 a, .int .i64 b, .int .i64 c, .int .i64 n] 25)).alloc (.cells #[.int .i64 o1, .string s1, .int .i64 a1, .int .i64 b1, .int .i64 c1, .int .i64 n1] 34) = W := ⟨_, rfl⟩
  have g1 : W.heap[w.heap.size]? = some (cRowV o s t a b c n) := by rw [← hW]; exact keepAlloc _ (heap_alloc_new w _)
  have g2 : W.heap[w.heap.size + 1]? = some (rRowV o1 s1 a1 b1 c1 n1) := by rw [← hW, show w.heap.size + 1 = (w.alloc (.cells #[.int .i64 o, .string s, .string t, .int .i64 a, .int .i64 b, .int .i64 c, .int .i64 n] 25)).heap.size from by simp]; exact heap_alloc_new _ _
  have hz : W.heap.size = w.heap.size + 2 := by rw [← hW]; simp
  have HB0 : Hid (Below w.heap.size w W) := Lib.hid (by rw [← hW]; exact ((Below.refl _ _).alloc (Nat.le_refl _) _).alloc (by simp) _)
  have HK := Lib.hid (fun V (h : Below W.heap.size W V) => cat_of g1 (by omega) h)
  have HJ := Lib.hid (fun V (h : Below W.heap.size W V) => rat_of g2 (by omega) h)
  have HW := Lib.hid hW
  have l1 : w.heap.size < W.heap.size := by omega
  have l2 : w.heap.size + 1 < W.heap.size := by omega
  have HZ1 := Lib.hid l1
  have HZ2 := Lib.hid l2
  clear hW g1 g2 hz
  have BN := Lib.hid (Below.refl W.heap.size W)
  obtain ⟨d0, d1, d2, d3, d4, d5, d6⟩ := HK.out _ BN.out
  obtain ⟨e0, e1, e2, e3, e4, e5⟩ := HJ.out _ BN.out
  go_enter Try.func6, Try.ntmps6
  go_wp2_with fail
  rw [HW.out]
  go_wp2_with (first
    | (go_at_call 11; (with_reducible refine (H1.out _).mono ?_); rintro e wx ⟨rfl, h⟩; replace BN : Hid (Below W.heap.size W wx) := Lib.hid (by first | exact BN.out.trans (h.mono BN.out.size) | exact (BN.out.alloc BN.out.size _).trans (h.mono (Nat.le_trans BN.out.size (by simp)))); clear h l1 l2 d0 d1 d2 d3 d4 d5 d6 e0 e1 e2 e3 e4 e5; obtain ⟨d0, d1, d2, d3, d4, d5, d6⟩ := HK.out _ BN.out; obtain ⟨e0, e1, e2, e3, e4, e5⟩ := HJ.out _ BN.out; have l1 := Nat.lt_of_lt_of_le HZ1.out BN.out.size; have l2 := Nat.lt_of_lt_of_le HZ2.out BN.out.size)
    | (go_at_call 17; (with_reducible refine (H2.out _).mono ?_); rintro e wx ⟨rfl, h⟩; replace BN : Hid (Below W.heap.size W wx) := Lib.hid (by first | exact BN.out.trans (h.mono BN.out.size) | exact (BN.out.alloc BN.out.size _).trans (h.mono (Nat.le_trans BN.out.size (by simp)))); clear h l1 l2 d0 d1 d2 d3 d4 d5 d6 e0 e1 e2 e3 e4 e5; obtain ⟨d0, d1, d2, d3, d4, d5, d6⟩ := HK.out _ BN.out; obtain ⟨e0, e1, e2, e3, e4, e5⟩ := HJ.out _ BN.out; have l1 := Nat.lt_of_lt_of_le HZ1.out BN.out.size; have l2 := Nat.lt_of_lt_of_le HZ2.out BN.out.size)
    | (go_at_call 13; (with_reducible refine (H3.out _).mono ?_); rintro e wx ⟨rfl, h⟩; replace BN : Hid (Below W.heap.size W wx) := Lib.hid (by first | exact BN.out.trans (h.mono BN.out.size) | exact (BN.out.alloc BN.out.size _).trans (h.mono (Nat.le_trans BN.out.size (by simp)))); clear h l1 l2 d0 d1 d2 d3 d4 d5 d6 e0 e1 e2 e3 e4 e5; obtain ⟨d0, d1, d2, d3, d4, d5, d6⟩ := HK.out _ BN.out; obtain ⟨e0, e1, e2, e3, e4, e5⟩ := HJ.out _ BN.out; have l1 := Nat.lt_of_lt_of_le HZ1.out BN.out.size; have l2 := Nat.lt_of_lt_of_le HZ2.out BN.out.size)
    | (go_at_call 21; (with_reducible refine (H4.out _).mono ?_); rintro e wx ⟨rfl, h⟩; replace BN : Hid (Below W.heap.size W wx) := Lib.hid (by first | exact BN.out.trans (h.mono BN.out.size) | exact (BN.out.alloc BN.out.size _).trans (h.mono (Nat.le_trans BN.out.size (by simp)))); clear h l1 l2 d0 d1 d2 d3 d4 d5 d6 e0 e1 e2 e3 e4 e5; obtain ⟨d0, d1, d2, d3, d4, d5, d6⟩ := HK.out _ BN.out; obtain ⟨e0, e1, e2, e3, e4, e5⟩ := HJ.out _ BN.out; have l1 := Nat.lt_of_lt_of_le HZ1.out BN.out.size; have l2 := Nat.lt_of_lt_of_le HZ2.out BN.out.size)
    | (go_at_call 19; (with_reducible refine (H5.out _).mono ?_); rintro e wx ⟨rfl, h⟩; replace BN : Hid (Below W.heap.size W wx) := Lib.hid (by first | exact BN.out.trans (h.mono BN.out.size) | exact (BN.out.alloc BN.out.size _).trans (h.mono (Nat.le_trans BN.out.size (by simp)))); clear h l1 l2 d0 d1 d2 d3 d4 d5 d6 e0 e1 e2 e3 e4 e5; obtain ⟨d0, d1, d2, d3, d4, d5, d6⟩ := HK.out _ BN.out; obtain ⟨e0, e1, e2, e3, e4, e5⟩ := HJ.out _ BN.out; have l1 := Nat.lt_of_lt_of_le HZ1.out BN.out.size; have l2 := Nat.lt_of_lt_of_le HZ2.out BN.out.size)
    | (go_at_call 17; (with_reducible refine (H6.out _).mono ?_); rintro e wx ⟨rfl, h⟩; replace BN : Hid (Below W.heap.size W wx) := Lib.hid (by first | exact BN.out.trans (h.mono BN.out.size) | exact (BN.out.alloc BN.out.size _).trans (h.mono (Nat.le_trans BN.out.size (by simp)))); clear h l1 l2 d0 d1 d2 d3 d4 d5 d6 e0 e1 e2 e3 e4 e5; obtain ⟨d0, d1, d2, d3, d4, d5, d6⟩ := HK.out _ BN.out; obtain ⟨e0, e1, e2, e3, e4, e5⟩ := HJ.out _ BN.out; have l1 := Nat.lt_of_lt_of_le HZ1.out BN.out.size; have l2 := Nat.lt_of_lt_of_le HZ2.out BN.out.size)
    | (go_at_call 11; (with_reducible refine (H7.out _).mono ?_); rintro e wx ⟨rfl, h⟩; replace BN : Hid (Below W.heap.size W wx) := Lib.hid (by first | exact BN.out.trans (h.mono BN.out.size) | exact (BN.out.alloc BN.out.size _).trans (h.mono (Nat.le_trans BN.out.size (by simp)))); clear h l1 l2 d0 d1 d2 d3 d4 d5 d6 e0 e1 e2 e3 e4 e5; obtain ⟨d0, d1, d2, d3, d4, d5, d6⟩ := HK.out _ BN.out; obtain ⟨e0, e1, e2, e3, e4, e5⟩ := HJ.out _ BN.out; have l1 := Nat.lt_of_lt_of_le HZ1.out BN.out.size; have l2 := Nat.lt_of_lt_of_le HZ2.out BN.out.size)
    | (go_at_call 19; (with_reducible refine (H8.out _).mono ?_); rintro e wx ⟨rfl, h⟩; replace BN : Hid (Below W.heap.size W wx) := Lib.hid (by first | exact BN.out.trans (h.mono BN.out.size) | exact (BN.out.alloc BN.out.size _).trans (h.mono (Nat.le_trans BN.out.size (by simp)))); clear h l1 l2 d0 d1 d2 d3 d4 d5 d6 e0 e1 e2 e3 e4 e5; obtain ⟨d0, d1, d2, d3, d4, d5, d6⟩ := HK.out _ BN.out; obtain ⟨e0, e1, e2, e3, e4, e5⟩ := HJ.out _ BN.out; have l1 := Nat.lt_of_lt_of_le HZ1.out BN.out.size; have l2 := Nat.lt_of_lt_of_le HZ2.out BN.out.size)
    | (go_at_call 21; (with_reducible refine (H9.out _).mono ?_); rintro e wx ⟨rfl, h⟩; replace BN : Hid (Below W.heap.size W wx) := Lib.hid (by first | exact BN.out.trans (h.mono BN.out.size) | exact (BN.out.alloc BN.out.size _).trans (h.mono (Nat.le_trans BN.out.size (by simp)))); clear h l1 l2 d0 d1 d2 d3 d4 d5 d6 e0 e1 e2 e3 e4 e5; obtain ⟨d0, d1, d2, d3, d4, d5, d6⟩ := HK.out _ BN.out; obtain ⟨e0, e1, e2, e3, e4, e5⟩ := HJ.out _ BN.out; have l1 := Nat.lt_of_lt_of_le HZ1.out BN.out.size; have l2 := Nat.lt_of_lt_of_le HZ2.out BN.out.size)
    | (go_at_call 10; (with_reducible refine (HAW.out _).mono ?_); rintro e wx ⟨rfl, h⟩; replace BN : Hid (Below W.heap.size W wx) := Lib.hid (by first | exact BN.out.trans (h.mono BN.out.size) | exact (BN.out.alloc BN.out.size _).trans (h.mono (Nat.le_trans BN.out.size (by simp)))); clear h l1 l2 d0 d1 d2 d3 d4 d5 d6 e0 e1 e2 e3 e4 e5; obtain ⟨d0, d1, d2, d3, d4, d5, d6⟩ := HK.out _ BN.out; obtain ⟨e0, e1, e2, e3, e4, e5⟩ := HJ.out _ BN.out; have l1 := Nat.lt_of_lt_of_le HZ1.out BN.out.size; have l2 := Nat.lt_of_lt_of_le HZ2.out BN.out.size))
  go_ret
  exact ⟨rfl, HB0.out.trans ((by first | exact BN.out | exact BN.out.alloc BN.out.size _ : Below W.heap.size W _).mono HB0.out.size)⟩
set_option maxHeartbeats 1000000 in
theorem back_TTTF (X Y L : ByteArray) (o : Int) (s t : ByteArray) (a b c n : Int) (o1 : Int) (s1 : ByteArray) (a1 b1 c1 n1 : Int) (o2 : Int) (s2 t2 : ByteArray) (a2 b2 c2 n2 : Int) (o3 : Int) (s3 : ByteArray) (a3 b3 c3 n3 : Int) (w : World)
    (h1 : ∀ W, Calls Try.prog 11 #[.agg #[.int .i64 o, .string s, .string t, .int .i64 a, .int .i64 b, .int .i64 c, .int .i64 n]] W (RetBelow (.tuple #[.string X, .int .i64 0]) W))
    (h2 : ∀ W, Calls Try.prog 17 #[.string X] W (RetBelow (.tuple #[.agg #[.int .i64 o, .string s, .string t, .int .i64 a, .int .i64 b, .int .i64 c, .int .i64 n], .int .i64 0]) W))
    (h3 : ∀ W, Calls Try.prog 13 #[.agg #[.int .i64 o, .string s, .string t, .int .i64 a, .int .i64 b, .int .i64 c, .int .i64 n]] W (RetBelow (.bool true) W))
    (h4 : ∀ W, Calls Try.prog 21 #[.agg #[.int .i64 o1, .string s1, .int .i64 a1, .int .i64 b1, .int .i64 c1, .int .i64 n1]] W (RetBelow (.tuple #[.string Y, .int .i64 0]) W))
    (h5 : ∀ W, Calls Try.prog 19 #[.string Y] W (RetBelow (.tuple #[.agg #[.int .i64 o1, .string s1, .int .i64 a1, .int .i64 b1, .int .i64 c1, .int .i64 n1], .int .i64 0]) W))
    (h6 : ∀ W, Calls Try.prog 17 #[.string L] W (RetBelow (.tuple #[.agg #[.int .i64 o2, .string s2, .string t2, .int .i64 a2, .int .i64 b2, .int .i64 c2, .int .i64 n2], .int .i64 0]) W))
    (h7 : ∀ W, Calls Try.prog 11 #[.agg #[.int .i64 o2, .string s2, .string t2, .int .i64 a2, .int .i64 b2, .int .i64 c2, .int .i64 n2]] W (RetBelow (.tuple #[.string L, .int .i64 0]) W))
    (h8 : ∀ W, Calls Try.prog 19 #[.string L] W (RetBelow (.tuple #[.agg #[.int .i64 0, .string ⟨#[]⟩, .int .i64 0, .int .i64 0, .int .i64 0, .int .i64 0], .int .i64 4]) W)) :
    Calls Try.prog 6 #[.agg #[.int .i64 o, .string s, .string t, .int .i64 a, .int .i64 b, .int .i64 c, .int .i64 n], .agg #[.int .i64 o1, .string s1, .int .i64 a1, .int .i64 b1, .int .i64 c1, .int .i64 n1], .string L] w (RetBelow (.bool true) w) := by
  have H1 := Lib.hid h1
  have H2 := Lib.hid h2
  have H3 := Lib.hid h3
  have H4 := Lib.hid h4
  have H5 := Lib.hid h5
  have H6 := Lib.hid h6
  have H7 := Lib.hid h7
  have H8 := Lib.hid h8
  have HAW := Lib.hid awakeC_any
  clear h1 h2 h3 h4 h5 h6 h7 h8
  have q1 : ∀ V : World, (binOp .neq 25 (.agg #[.int .i64 o, .string s, .string t, .int .i64 a, .int .i64 b, .int .i64 c, .int .i64 n]) (.agg #[.int .i64 o, .string s, .string t, .int .i64 a, .int .i64 b, .int .i64 c, .int .i64 n])).run Try.prog V = .ok (.bool false) V := fun V => by rw [neq25v, eqC_self]; rfl
  have q2 : ∀ V : World, (binOp .neq 34 (.agg #[.int .i64 o1, .string s1, .int .i64 a1, .int .i64 b1, .int .i64 c1, .int .i64 n1]) (.agg #[.int .i64 o1, .string s1, .int .i64 a1, .int .i64 b1, .int .i64 c1, .int .i64 n1])).run Try.prog V = .ok (.bool false) V := fun V => by rw [neq34v, eqR_self]; rfl
  have q3 : ∀ V : World, (binOp .eql 34 (.agg #[.int .i64 0, .string ⟨#[]⟩, .int .i64 0, .int .i64 0, .int .i64 0, .int .i64 0]) (.agg #[.int .i64 0, .string ⟨#[]⟩, .int .i64 0, .int .i64 0, .int .i64 0, .int .i64 0])).run Try.prog V = .ok (.bool true) V := fun V => by rw [eq34v, eqR_self]
  have q4 : ∀ V : World, (Instr.build 34 #[]).run Try.prog V = .ok (.agg #[.int .i64 0, .string ⟨#[]⟩, .int .i64 0, .int .i64 0, .int .i64 0, .int .i64 0]) V := fun V => run_build V 34 _ _ (by kernel_rfl)
  obtain ⟨W, hW⟩ : ∃ W, (w.alloc (.cells #[.int .i64 o, .string s, .string t, .int .i64 a, .int .i64 b, .int .i64 c, .int .i64 n] 25)).alloc (.cells #[.int .i64 o1, .string s1, .int .i64 a1, .int .i64 b1, .int .i64 c1, .int .i64 n1] 34) = W := ⟨_, rfl⟩
  have g1 : W.heap[w.heap.size]? = some (cRowV o s t a b c n) := by rw [← hW]; exact keepAlloc _ (heap_alloc_new w _)
  have g2 : W.heap[w.heap.size + 1]? = some (rRowV o1 s1 a1 b1 c1 n1) := by rw [← hW, show w.heap.size + 1 = (w.alloc (.cells #[.int .i64 o, .string s, .string t, .int .i64 a, .int .i64 b, .int .i64 c, .int .i64 n] 25)).heap.size from by simp]; exact heap_alloc_new _ _
  have hz : W.heap.size = w.heap.size + 2 := by rw [← hW]; simp
  have HB0 : Hid (Below w.heap.size w W) := Lib.hid (by rw [← hW]; exact ((Below.refl _ _).alloc (Nat.le_refl _) _).alloc (by simp) _)
  have HK := Lib.hid (fun V (h : Below W.heap.size W V) => cat_of g1 (by omega) h)
  have HJ := Lib.hid (fun V (h : Below W.heap.size W V) => rat_of g2 (by omega) h)
  have HW := Lib.hid hW
  have l1 : w.heap.size < W.heap.size := by omega
  have l2 : w.heap.size + 1 < W.heap.size := by omega
  have HZ1 := Lib.hid l1
  have HZ2 := Lib.hid l2
  clear hW g1 g2 hz
  have BN := Lib.hid (Below.refl W.heap.size W)
  obtain ⟨d0, d1, d2, d3, d4, d5, d6⟩ := HK.out _ BN.out
  obtain ⟨e0, e1, e2, e3, e4, e5⟩ := HJ.out _ BN.out
  go_enter Try.func6, Try.ntmps6
  go_wp2_with fail
  rw [HW.out]
  go_wp2_with (first
    | (go_at_call 11; (with_reducible refine (H1.out _).mono ?_); rintro e wx ⟨rfl, h⟩; replace BN : Hid (Below W.heap.size W wx) := Lib.hid (by first | exact BN.out.trans (h.mono BN.out.size) | exact (BN.out.alloc BN.out.size _).trans (h.mono (Nat.le_trans BN.out.size (by simp)))); clear h l1 l2 d0 d1 d2 d3 d4 d5 d6 e0 e1 e2 e3 e4 e5; obtain ⟨d0, d1, d2, d3, d4, d5, d6⟩ := HK.out _ BN.out; obtain ⟨e0, e1, e2, e3, e4, e5⟩ := HJ.out _ BN.out; have l1 := Nat.lt_of_lt_of_le HZ1.out BN.out.size; have l2 := Nat.lt_of_lt_of_le HZ2.out BN.out.size)
    | (go_at_call 17; (with_reducible refine (H2.out _).mono ?_); rintro e wx ⟨rfl, h⟩; replace BN : Hid (Below W.heap.size W wx) := Lib.hid (by first | exact BN.out.trans (h.mono BN.out.size) | exact (BN.out.alloc BN.out.size _).trans (h.mono (Nat.le_trans BN.out.size (by simp)))); clear h l1 l2 d0 d1 d2 d3 d4 d5 d6 e0 e1 e2 e3 e4 e5; obtain ⟨d0, d1, d2, d3, d4, d5, d6⟩ := HK.out _ BN.out; obtain ⟨e0, e1, e2, e3, e4, e5⟩ := HJ.out _ BN.out; have l1 := Nat.lt_of_lt_of_le HZ1.out BN.out.size; have l2 := Nat.lt_of_lt_of_le HZ2.out BN.out.size)
    | (go_at_call 13; (with_reducible refine (H3.out _).mono ?_); rintro e wx ⟨rfl, h⟩; replace BN : Hid (Below W.heap.size W wx) := Lib.hid (by first | exact BN.out.trans (h.mono BN.out.size) | exact (BN.out.alloc BN.out.size _).trans (h.mono (Nat.le_trans BN.out.size (by simp)))); clear h l1 l2 d0 d1 d2 d3 d4 d5 d6 e0 e1 e2 e3 e4 e5; obtain ⟨d0, d1, d2, d3, d4, d5, d6⟩ := HK.out _ BN.out; obtain ⟨e0, e1, e2, e3, e4, e5⟩ := HJ.out _ BN.out; have l1 := Nat.lt_of_lt_of_le HZ1.out BN.out.size; have l2 := Nat.lt_of_lt_of_le HZ2.out BN.out.size)
    | (go_at_call 21; (with_reducible refine (H4.out _).mono ?_); rintro e wx ⟨rfl, h⟩; replace BN : Hid (Below W.heap.size W wx) := Lib.hid (by first | exact BN.out.trans (h.mono BN.out.size) | exact (BN.out.alloc BN.out.size _).trans (h.mono (Nat.le_trans BN.out.size (by simp)))); clear h l1 l2 d0 d1 d2 d3 d4 d5 d6 e0 e1 e2 e3 e4 e5; obtain ⟨d0, d1, d2, d3, d4, d5, d6⟩ := HK.out _ BN.out; obtain ⟨e0, e1, e2, e3, e4, e5⟩ := HJ.out _ BN.out; have l1 := Nat.lt_of_lt_of_le HZ1.out BN.out.size; have l2 := Nat.lt_of_lt_of_le HZ2.out BN.out.size)
    | (go_at_call 19; (with_reducible refine (H5.out _).mono ?_); rintro e wx ⟨rfl, h⟩; replace BN : Hid (Below W.heap.size W wx) := Lib.hid (by first | exact BN.out.trans (h.mono BN.out.size) | exact (BN.out.alloc BN.out.size _).trans (h.mono (Nat.le_trans BN.out.size (by simp)))); clear h l1 l2 d0 d1 d2 d3 d4 d5 d6 e0 e1 e2 e3 e4 e5; obtain ⟨d0, d1, d2, d3, d4, d5, d6⟩ := HK.out _ BN.out; obtain ⟨e0, e1, e2, e3, e4, e5⟩ := HJ.out _ BN.out; have l1 := Nat.lt_of_lt_of_le HZ1.out BN.out.size; have l2 := Nat.lt_of_lt_of_le HZ2.out BN.out.size)
    | (go_at_call 17; (with_reducible refine (H6.out _).mono ?_); rintro e wx ⟨rfl, h⟩; replace BN : Hid (Below W.heap.size W wx) := Lib.hid (by first | exact BN.out.trans (h.mono BN.out.size) | exact (BN.out.alloc BN.out.size _).trans (h.mono (Nat.le_trans BN.out.size (by simp)))); clear h l1 l2 d0 d1 d2 d3 d4 d5 d6 e0 e1 e2 e3 e4 e5; obtain ⟨d0, d1, d2, d3, d4, d5, d6⟩ := HK.out _ BN.out; obtain ⟨e0, e1, e2, e3, e4, e5⟩ := HJ.out _ BN.out; have l1 := Nat.lt_of_lt_of_le HZ1.out BN.out.size; have l2 := Nat.lt_of_lt_of_le HZ2.out BN.out.size)
    | (go_at_call 11; (with_reducible refine (H7.out _).mono ?_); rintro e wx ⟨rfl, h⟩; replace BN : Hid (Below W.heap.size W wx) := Lib.hid (by first | exact BN.out.trans (h.mono BN.out.size) | exact (BN.out.alloc BN.out.size _).trans (h.mono (Nat.le_trans BN.out.size (by simp)))); clear h l1 l2 d0 d1 d2 d3 d4 d5 d6 e0 e1 e2 e3 e4 e5; obtain ⟨d0, d1, d2, d3, d4, d5, d6⟩ := HK.out _ BN.out; obtain ⟨e0, e1, e2, e3, e4, e5⟩ := HJ.out _ BN.out; have l1 := Nat.lt_of_lt_of_le HZ1.out BN.out.size; have l2 := Nat.lt_of_lt_of_le HZ2.out BN.out.size)
    | (go_at_call 19; (with_reducible refine (H8.out _).mono ?_); rintro e wx ⟨rfl, h⟩; replace BN : Hid (Below W.heap.size W wx) := Lib.hid (by first | exact BN.out.trans (h.mono BN.out.size) | exact (BN.out.alloc BN.out.size _).trans (h.mono (Nat.le_trans BN.out.size (by simp)))); clear h l1 l2 d0 d1 d2 d3 d4 d5 d6 e0 e1 e2 e3 e4 e5; obtain ⟨d0, d1, d2, d3, d4, d5, d6⟩ := HK.out _ BN.out; obtain ⟨e0, e1, e2, e3, e4, e5⟩ := HJ.out _ BN.out; have l1 := Nat.lt_of_lt_of_le HZ1.out BN.out.size; have l2 := Nat.lt_of_lt_of_le HZ2.out BN.out.size)
    | (go_at_call 10; (with_reducible refine (HAW.out _).mono ?_); rintro e wx ⟨rfl, h⟩; replace BN : Hid (Below W.heap.size W wx) := Lib.hid (by first | exact BN.out.trans (h.mono BN.out.size) | exact (BN.out.alloc BN.out.size _).trans (h.mono (Nat.le_trans BN.out.size (by simp)))); clear h l1 l2 d0 d1 d2 d3 d4 d5 d6 e0 e1 e2 e3 e4 e5; obtain ⟨d0, d1, d2, d3, d4, d5, d6⟩ := HK.out _ BN.out; obtain ⟨e0, e1, e2, e3, e4, e5⟩ := HJ.out _ BN.out; have l1 := Nat.lt_of_lt_of_le HZ1.out BN.out.size; have l2 := Nat.lt_of_lt_of_le HZ2.out BN.out.size))
  go_ret
  exact ⟨rfl, HB0.out.trans ((by first | exact BN.out | exact BN.out.alloc BN.out.size _ : Below W.heap.size W _).mono HB0.out.size)⟩
set_option maxHeartbeats 1000000 in
theorem back_TTFT (X Y L : ByteArray) (o : Int) (s t : ByteArray) (a b c n : Int) (o1 : Int) (s1 : ByteArray) (a1 b1 c1 n1 : Int) (o2 : Int) (s2 t2 : ByteArray) (a2 b2 c2 n2 : Int) (o3 : Int) (s3 : ByteArray) (a3 b3 c3 n3 : Int) (w : World)
    (h1 : ∀ W, Calls Try.prog 11 #[.agg #[.int .i64 o, .string s, .string t, .int .i64 a, .int .i64 b, .int .i64 c, .int .i64 n]] W (RetBelow (.tuple #[.string X, .int .i64 0]) W))
    (h2 : ∀ W, Calls Try.prog 17 #[.string X] W (RetBelow (.tuple #[.agg #[.int .i64 o, .string s, .string t, .int .i64 a, .int .i64 b, .int .i64 c, .int .i64 n], .int .i64 0]) W))
    (h3 : ∀ W, Calls Try.prog 13 #[.agg #[.int .i64 o, .string s, .string t, .int .i64 a, .int .i64 b, .int .i64 c, .int .i64 n]] W (RetBelow (.bool true) W))
    (h4 : ∀ W, Calls Try.prog 21 #[.agg #[.int .i64 o1, .string s1, .int .i64 a1, .int .i64 b1, .int .i64 c1, .int .i64 n1]] W (RetBelow (.tuple #[.string Y, .int .i64 0]) W))
    (h5 : ∀ W, Calls Try.prog 19 #[.string Y] W (RetBelow (.tuple #[.agg #[.int .i64 o1, .string s1, .int .i64 a1, .int .i64 b1, .int .i64 c1, .int .i64 n1], .int .i64 0]) W))
    (h6 : ∀ W, Calls Try.prog 17 #[.string L] W (RetBelow (.tuple #[.agg #[.int .i64 0, .string ⟨#[]⟩, .string ⟨#[]⟩, .int .i64 0, .int .i64 0, .int .i64 0, .int .i64 0], .int .i64 4]) W))
    (h8 : ∀ W, Calls Try.prog 19 #[.string L] W (RetBelow (.tuple #[.agg #[.int .i64 o3, .string s3, .int .i64 a3, .int .i64 b3, .int .i64 c3, .int .i64 n3], .int .i64 0]) W))
    (h9 : ∀ W, Calls Try.prog 21 #[.agg #[.int .i64 o3, .string s3, .int .i64 a3, .int .i64 b3, .int .i64 c3, .int .i64 n3]] W (RetBelow (.tuple #[.string L, .int .i64 0]) W)) :
    Calls Try.prog 6 #[.agg #[.int .i64 o, .string s, .string t, .int .i64 a, .int .i64 b, .int .i64 c, .int .i64 n], .agg #[.int .i64 o1, .string s1, .int .i64 a1, .int .i64 b1, .int .i64 c1, .int .i64 n1], .string L] w (RetBelow (.bool true) w) := by
  have H1 := Lib.hid h1
  have H2 := Lib.hid h2
  have H3 := Lib.hid h3
  have H4 := Lib.hid h4
  have H5 := Lib.hid h5
  have H6 := Lib.hid h6
  have H8 := Lib.hid h8
  have H9 := Lib.hid h9
  have HAW := Lib.hid awakeC_any
  clear h1 h2 h3 h4 h5 h6 h8 h9
  have q1 : ∀ V : World, (binOp .neq 25 (.agg #[.int .i64 o, .string s, .string t, .int .i64 a, .int .i64 b, .int .i64 c, .int .i64 n]) (.agg #[.int .i64 o, .string s, .string t, .int .i64 a, .int .i64 b, .int .i64 c, .int .i64 n])).run Try.prog V = .ok (.bool false) V := fun V => by rw [neq25v, eqC_self]; rfl
  have q2 : ∀ V : World, (binOp .neq 34 (.agg #[.int .i64 o1, .string s1, .int .i64 a1, .int .i64 b1, .int .i64 c1, .int .i64 n1]) (.agg #[.int .i64 o1, .string s1, .int .i64 a1, .int .i64 b1, .int .i64 c1, .int .i64 n1])).run Try.prog V = .ok (.bool false) V := fun V => by rw [neq34v, eqR_self]; rfl
  have q3 : ∀ V : World, (binOp .eql 34 (.agg #[.int .i64 0, .string ⟨#[]⟩, .int .i64 0, .int .i64 0, .int .i64 0, .int .i64 0]) (.agg #[.int .i64 0, .string ⟨#[]⟩, .int .i64 0, .int .i64 0, .int .i64 0, .int .i64 0])).run Try.prog V = .ok (.bool true) V := fun V => by rw [eq34v, eqR_self]
  have q4 : ∀ V : World, (Instr.build 34 #[]).run Try.prog V = .ok (.agg #[.int .i64 0, .string ⟨#[]⟩, .int .i64 0, .int .i64 0, .int .i64 0, .int .i64 0]) V := fun V => run_build V 34 _ _ (by kernel_rfl)
  obtain ⟨W, hW⟩ : ∃ W, (w.alloc (.cells #[.int .i64 o, .string s, .string t, .int .i64 a, .int .i64 b, .int .i64 c, .int .i64 n] 25)).alloc (.cells #[.int .i64 o1, .string s1, .int .i64 a1, .int .i64 b1, .int .i64 c1, .int .i64 n1] 34) = W := ⟨_, rfl⟩
  have g1 : W.heap[w.heap.size]? = some (cRowV o s t a b c n) := by rw [← hW]; exact keepAlloc _ (heap_alloc_new w _)
  have g2 : W.heap[w.heap.size + 1]? = some (rRowV o1 s1 a1 b1 c1 n1) := by rw [← hW, show w.heap.size + 1 = (w.alloc (.cells #[.int .i64 o, .string s, .string t, .int .i64 a, .int .i64 b, .int .i64 c, .int .i64 n] 25)).heap.size from by simp]; exact heap_alloc_new _ _
  have hz : W.heap.size = w.heap.size + 2 := by rw [← hW]; simp
  have HB0 : Hid (Below w.heap.size w W) := Lib.hid (by rw [← hW]; exact ((Below.refl _ _).alloc (Nat.le_refl _) _).alloc (by simp) _)
  have HK := Lib.hid (fun V (h : Below W.heap.size W V) => cat_of g1 (by omega) h)
  have HJ := Lib.hid (fun V (h : Below W.heap.size W V) => rat_of g2 (by omega) h)
  have HW := Lib.hid hW
  have l1 : w.heap.size < W.heap.size := by omega
  have l2 : w.heap.size + 1 < W.heap.size := by omega
  have HZ1 := Lib.hid l1
  have HZ2 := Lib.hid l2
  clear hW g1 g2 hz
  have BN := Lib.hid (Below.refl W.heap.size W)
  obtain ⟨d0, d1, d2, d3, d4, d5, d6⟩ := HK.out _ BN.out
  obtain ⟨e0, e1, e2, e3, e4, e5⟩ := HJ.out _ BN.out
  go_enter Try.func6, Try.ntmps6
  go_wp2_with fail
  rw [HW.out]
  go_wp2_with (first
    | (go_at_call 11; (with_reducible refine (H1.out _).mono ?_); rintro e wx ⟨rfl, h⟩; replace BN : Hid (Below W.heap.size W wx) := Lib.hid (by first | exact BN.out.trans (h.mono BN.out.size) | exact (BN.out.alloc BN.out.size _).trans (h.mono (Nat.le_trans BN.out.size (by simp)))); clear h l1 l2 d0 d1 d2 d3 d4 d5 d6 e0 e1 e2 e3 e4 e5; obtain ⟨d0, d1, d2, d3, d4, d5, d6⟩ := HK.out _ BN.out; obtain ⟨e0, e1, e2, e3, e4, e5⟩ := HJ.out _ BN.out; have l1 := Nat.lt_of_lt_of_le HZ1.out BN.out.size; have l2 := Nat.lt_of_lt_of_le HZ2.out BN.out.size)
    | (go_at_call 17; (with_reducible refine (H2.out _).mono ?_); rintro e wx ⟨rfl, h⟩; replace BN : Hid (Below W.heap.size W wx) := Lib.hid (by first | exact BN.out.trans (h.mono BN.out.size) | exact (BN.out.alloc BN.out.size _).trans (h.mono (Nat.le_trans BN.out.size (by simp)))); clear h l1 l2 d0 d1 d2 d3 d4 d5 d6 e0 e1 e2 e3 e4 e5; obtain ⟨d0, d1, d2, d3, d4, d5, d6⟩ := HK.out _ BN.out; obtain ⟨e0, e1, e2, e3, e4, e5⟩ := HJ.out _ BN.out; have l1 := Nat.lt_of_lt_of_le HZ1.out BN.out.size; have l2 := Nat.lt_of_lt_of_le HZ2.out BN.out.size)
    | (go_at_call 13; (with_reducible refine (H3.out _).mono ?_); rintro e wx ⟨rfl, h⟩; replace BN : Hid (Below W.heap.size W wx) := Lib.hid (by first | exact BN.out.trans (h.mono BN.out.size) | exact (BN.out.alloc BN.out.size _).trans (h.mono (Nat.le_trans BN.out.size (by simp)))); clear h l1 l2 d0 d1 d2 d3 d4 d5 d6 e0 e1 e2 e3 e4 e5; obtain ⟨d0, d1, d2, d3, d4, d5, d6⟩ := HK.out _ BN.out; obtain ⟨e0, e1, e2, e3, e4, e5⟩ := HJ.out _ BN.out; have l1 := Nat.lt_of_lt_of_le HZ1.out BN.out.size; have l2 := Nat.lt_of_lt_of_le HZ2.out BN.out.size)
    | (go_at_call 21; (with_reducible refine (H4.out _).mono ?_); rintro e wx ⟨rfl, h⟩; replace BN : Hid (Below W.heap.size W wx) := Lib.hid (by first | exact BN.out.trans (h.mono BN.out.size) | exact (BN.out.alloc BN.out.size _).trans (h.mono (Nat.le_trans BN.out.size (by simp)))); clear h l1 l2 d0 d1 d2 d3 d4 d5 d6 e0 e1 e2 e3 e4 e5; obtain ⟨d0, d1, d2, d3, d4, d5, d6⟩ := HK.out _ BN.out; obtain ⟨e0, e1, e2, e3, e4, e5⟩ := HJ.out _ BN.out; have l1 := Nat.lt_of_lt_of_le HZ1.out BN.out.size; have l2 := Nat.lt_of_lt_of_le HZ2.out BN.out.size)
    | (go_at_call 19; (with_reducible refine (H5.out _).mono ?_); rintro e wx ⟨rfl, h⟩; replace BN : Hid (Below W.heap.size W wx) := Lib.hid (by first | exact BN.out.trans (h.mono BN.out.size) | exact (BN.out.alloc BN.out.size _).trans (h.mono (Nat.le_trans BN.out.size (by simp)))); clear h l1 l2 d0 d1 d2 d3 d4 d5 d6 e0 e1 e2 e3 e4 e5; obtain ⟨d0, d1, d2, d3, d4, d5, d6⟩ := HK.out _ BN.out; obtain ⟨e0, e1, e2, e3, e4, e5⟩ := HJ.out _ BN.out; have l1 := Nat.lt_of_lt_of_le HZ1.out BN.out.size; have l2 := Nat.lt_of_lt_of_le HZ2.out BN.out.size)
    | (go_at_call 17; (with_reducible refine (H6.out _).mono ?_); rintro e wx ⟨rfl, h⟩; replace BN : Hid (Below W.heap.size W wx) := Lib.hid (by first | exact BN.out.trans (h.mono BN.out.size) | exact (BN.out.alloc BN.out.size _).trans (h.mono (Nat.le_trans BN.out.size (by simp)))); clear h l1 l2 d0 d1 d2 d3 d4 d5 d6 e0 e1 e2 e3 e4 e5; obtain ⟨d0, d1, d2, d3, d4, d5, d6⟩ := HK.out _ BN.out; obtain ⟨e0, e1, e2, e3, e4, e5⟩ := HJ.out _ BN.out; have l1 := Nat.lt_of_lt_of_le HZ1.out BN.out.size; have l2 := Nat.lt_of_lt_of_le HZ2.out BN.out.size)
    | (go_at_call 19; (with_reducible refine (H8.out _).mono ?_); rintro e wx ⟨rfl, h⟩; replace BN : Hid (Below W.heap.size W wx) := Lib.hid (by first | exact BN.out.trans (h.mono BN.out.size) | exact (BN.out.alloc BN.out.size _).trans (h.mono (Nat.le_trans BN.out.size (by simp)))); clear h l1 l2 d0 d1 d2 d3 d4 d5 d6 e0 e1 e2 e3 e4 e5; obtain ⟨d0, d1, d2, d3, d4, d5, d6⟩ := HK.out _ BN.out; obtain ⟨e0, e1, e2, e3, e4, e5⟩ := HJ.out _ BN.out; have l1 := Nat.lt_of_lt_of_le HZ1.out BN.out.size; have l2 := Nat.lt_of_lt_of_le HZ2.out BN.out.size)
    | (go_at_call 21; (with_reducible refine (H9.out _).mono ?_); rintro e wx ⟨rfl, h⟩; replace BN : Hid (Below W.heap.size W wx) := Lib.hid (by first | exact BN.out.trans (h.mono BN.out.size) | exact (BN.out.alloc BN.out.size _).trans (h.mono (Nat.le_trans BN.out.size (by simp)))); clear h l1 l2 d0 d1 d2 d3 d4 d5 d6 e0 e1 e2 e3 e4 e5; obtain ⟨d0, d1, d2, d3, d4, d5, d6⟩ := HK.out _ BN.out; obtain ⟨e0, e1, e2, e3, e4, e5⟩ := HJ.out _ BN.out; have l1 := Nat.lt_of_lt_of_le HZ1.out BN.out.size; have l2 := Nat.lt_of_lt_of_le HZ2.out BN.out.size)
    | (go_at_call 10; (with_reducible refine (HAW.out _).mono ?_); rintro e wx ⟨rfl, h⟩; replace BN : Hid (Below W.heap.size W wx) := Lib.hid (by first | exact BN.out.trans (h.mono BN.out.size) | exact (BN.out.alloc BN.out.size _).trans (h.mono (Nat.le_trans BN.out.size (by simp)))); clear h l1 l2 d0 d1 d2 d3 d4 d5 d6 e0 e1 e2 e3 e4 e5; obtain ⟨d0, d1, d2, d3, d4, d5, d6⟩ := HK.out _ BN.out; obtain ⟨e0, e1, e2, e3, e4, e5⟩ := HJ.out _ BN.out; have l1 := Nat.lt_of_lt_of_le HZ1.out BN.out.size; have l2 := Nat.lt_of_lt_of_le HZ2.out BN.out.size))
  go_ret
  exact ⟨rfl, HB0.out.trans ((by first | exact BN.out | exact BN.out.alloc BN.out.size _ : Below W.heap.size W _).mono HB0.out.size)⟩
set_option maxHeartbeats 1000000 in
theorem back_TTFF (X Y L : ByteArray) (o : Int) (s t : ByteArray) (a b c n : Int) (o1 : Int) (s1 : ByteArray) (a1 b1 c1 n1 : Int) (o2 : Int) (s2 t2 : ByteArray) (a2 b2 c2 n2 : Int) (o3 : Int) (s3 : ByteArray) (a3 b3 c3 n3 : Int) (w : World)
    (h1 : ∀ W, Calls Try.prog 11 #[.agg #[.int .i64 o, .string s, .string t, .int .i64 a, .int .i64 b, .int .i64 c, .int .i64 n]] W (RetBelow (.tuple #[.string X, .int .i64 0]) W))
    (h2 : ∀ W, Calls Try.prog 17 #[.string X] W (RetBelow (.tuple #[.agg #[.int .i64 o, .string s, .string t, .int .i64 a, .int .i64 b, .int .i64 c, .int .i64 n], .int .i64 0]) W))
    (h3 : ∀ W, Calls Try.prog 13 #[.agg #[.int .i64 o, .string s, .string t, .int .i64 a, .int .i64 b, .int .i64 c, .int .i64 n]] W (RetBelow (.bool true) W))
    (h4 : ∀ W, Calls Try.prog 21 #[.agg #[.int .i64 o1, .string s1, .int .i64 a1, .int .i64 b1, .int .i64 c1, .int .i64 n1]] W (RetBelow (.tuple #[.string Y, .int .i64 0]) W))
    (h5 : ∀ W, Calls Try.prog 19 #[.string Y] W (RetBelow (.tuple #[.agg #[.int .i64 o1, .string s1, .int .i64 a1, .int .i64 b1, .int .i64 c1, .int .i64 n1], .int .i64 0]) W))
    (h6 : ∀ W, Calls Try.prog 17 #[.string L] W (RetBelow (.tuple #[.agg #[.int .i64 0, .string ⟨#[]⟩, .string ⟨#[]⟩, .int .i64 0, .int .i64 0, .int .i64 0, .int .i64 0], .int .i64 4]) W))
    (h8 : ∀ W, Calls Try.prog 19 #[.string L] W (RetBelow (.tuple #[.agg #[.int .i64 0, .string ⟨#[]⟩, .int .i64 0, .int .i64 0, .int .i64 0, .int .i64 0], .int .i64 4]) W)) :
    Calls Try.prog 6 #[.agg #[.int .i64 o, .string s, .string t, .int .i64 a, .int .i64 b, .int .i64 c, .int .i64 n], .agg #[.int .i64 o1, .string s1, .int .i64 a1, .int .i64 b1, .int .i64 c1, .int .i64 n1], .string L] w (RetBelow (.bool true) w) := by
  have H1 := Lib.hid h1
  have H2 := Lib.hid h2
  have H3 := Lib.hid h3
  have H4 := Lib.hid h4
  have H5 := Lib.hid h5
  have H6 := Lib.hid h6
  have H8 := Lib.hid h8
  have HAW := Lib.hid awakeC_any
  clear h1 h2 h3 h4 h5 h6 h8
  have q1 : ∀ V : World, (binOp .neq 25 (.agg #[.int .i64 o, .string s, .string t, .int .i64 a, .int .i64 b, .int .i64 c, .int .i64 n]) (.agg #[.int .i64 o, .string s, .string t, .int .i64 a, .int .i64 b, .int .i64 c, .int .i64 n])).run Try.prog V = .ok (.bool false) V := fun V => by rw [neq25v, eqC_self]; rfl
  have q2 : ∀ V : World, (binOp .neq 34 (.agg #[.int .i64 o1, .string s1, .int .i64 a1, .int .i64 b1, .int .i64 c1, .int .i64 n1]) (.agg #[.int .i64 o1, .string s1, .int .i64 a1, .int .i64 b1, .int .i64 c1, .int .i64 n1])).run Try.prog V = .ok (.bool false) V := fun V => by rw [neq34v, eqR_self]; rfl
  have q3 : ∀ V : World, (binOp .eql 34 (.agg #[.int .i64 0, .string ⟨#[]⟩, .int .i64 0, .int .i64 0, .int .i64 0, .int .i64 0]) (.agg #[.int .i64 0, .string ⟨#[]⟩, .int .i64 0, .int .i64 0, .int .i64 0, .int .i64 0])).run Try.prog V = .ok (.bool true) V := fun V => by rw [eq34v, eqR_self]
  have q4 : ∀ V : World, (Instr.build 34 #[]).run Try.prog V = .ok (.agg #[.int .i64 0, .string ⟨#[]⟩, .int .i64 0, .int .i64 0, .int .i64 0, .int .i64 0]) V := fun V => run_build V 34 _ _ (by kernel_rfl)
  obtain ⟨W, hW⟩ : ∃ W, (w.alloc (.cells #[.int .i64 o, .string s, .string t, .int .i64 a, .int .i64 b, .int .i64 c, .int .i64 n] 25)).alloc (.cells #[.int .i64 o1, .string s1, .int .i64 a1, .int .i64 b1, .int .i64 c1, .int .i64 n1] 34) = W := ⟨_, rfl⟩
  have g1 : W.heap[w.heap.size]? = some (cRowV o s t a b c n) := by rw [← hW]; exact keepAlloc _ (heap_alloc_new w _)
  have g2 : W.heap[w.heap.size + 1]? = some (rRowV o1 s1 a1 b1 c1 n1) := by rw [← hW, show w.heap.size + 1 = (w.alloc (.cells #[.int .i64 o, .string s, .string t, .int .i64 a, .int .i64 b, .int .i64 c, .int .i64 n] 25)).heap.size from by simp]; exact heap_alloc_new _ _
  have hz : W.heap.size = w.heap.size + 2 := by rw [← hW]; simp
  have HB0 : Hid (Below w.heap.size w W) := Lib.hid (by rw [← hW]; exact ((Below.refl _ _).alloc (Nat.le_refl _) _).alloc (by simp) _)
  have HK := Lib.hid (fun V (h : Below W.heap.size W V) => cat_of g1 (by omega) h)
  have HJ := Lib.hid (fun V (h : Below W.heap.size W V) => rat_of g2 (by omega) h)
  have HW := Lib.hid hW
  have l1 : w.heap.size < W.heap.size := by omega
  have l2 : w.heap.size + 1 < W.heap.size := by omega
  have HZ1 := Lib.hid l1
  have HZ2 := Lib.hid l2
  clear hW g1 g2 hz
  have BN := Lib.hid (Below.refl W.heap.size W)
  obtain ⟨d0, d1, d2, d3, d4, d5, d6⟩ := HK.out _ BN.out
  obtain ⟨e0, e1, e2, e3, e4, e5⟩ := HJ.out _ BN.out
  go_enter Try.func6, Try.ntmps6
  go_wp2_with fail
  rw [HW.out]
  go_wp2_with (first
    | (go_at_call 11; (with_reducible refine (H1.out _).mono ?_); rintro e wx ⟨rfl, h⟩; replace BN : Hid (Below W.heap.size W wx) := Lib.hid (by first | exact BN.out.trans (h.mono BN.out.size) | exact (BN.out.alloc BN.out.size _).trans (h.mono (Nat.le_trans BN.out.size (by simp)))); clear h l1 l2 d0 d1 d2 d3 d4 d5 d6 e0 e1 e2 e3 e4 e5; obtain ⟨d0, d1, d2, d3, d4, d5, d6⟩ := HK.out _ BN.out; obtain ⟨e0, e1, e2, e3, e4, e5⟩ := HJ.out _ BN.out; have l1 := Nat.lt_of_lt_of_le HZ1.out BN.out.size; have l2 := Nat.lt_of_lt_of_le HZ2.out BN.out.size)
    | (go_at_call 17; (with_reducible refine (H2.out _).mono ?_); rintro e wx ⟨rfl, h⟩; replace BN : Hid (Below W.heap.size W wx) := Lib.hid (by first | exact BN.out.trans (h.mono BN.out.size) | exact (BN.out.alloc BN.out.size _).trans (h.mono (Nat.le_trans BN.out.size (by simp)))); clear h l1 l2 d0 d1 d2 d3 d4 d5 d6 e0 e1 e2 e3 e4 e5; obtain ⟨d0, d1, d2, d3, d4, d5, d6⟩ := HK.out _ BN.out; obtain ⟨e0, e1, e2, e3, e4, e5⟩ := HJ.out _ BN.out; have l1 := Nat.lt_of_lt_of_le HZ1.out BN.out.size; have l2 := Nat.lt_of_lt_of_le HZ2.out BN.out.size)
    | (go_at_call 13; (with_reducible refine (H3.out _).mono ?_); rintro e wx ⟨rfl, h⟩; replace BN : Hid (Below W.heap.size W wx) := Lib.hid (by first | exact BN.out.trans (h.mono BN.out.size) | exact (BN.out.alloc BN.out.size _).trans (h.mono (Nat.le_trans BN.out.size (by simp)))); clear h l1 l2 d0 d1 d2 d3 d4 d5 d6 e0 e1 e2 e3 e4 e5; obtain ⟨d0, d1, d2, d3, d4, d5, d6⟩ := HK.out _ BN.out; obtain ⟨e0, e1, e2, e3, e4, e5⟩ := HJ.out _ BN.out; have l1 := Nat.lt_of_lt_of_le HZ1.out BN.out.size; have l2 := Nat.lt_of_lt_of_le HZ2.out BN.out.size)
    | (go_at_call 21; (with_reducible refine (H4.out _).mono ?_); rintro e wx ⟨rfl, h⟩; replace BN : Hid (Below W.heap.size W wx) := Lib.hid (by first | exact BN.out.trans (h.mono BN.out.size) | exact (BN.out.alloc BN.out.size _).trans (h.mono (Nat.le_trans BN.out.size (by simp)))); clear h l1 l2 d0 d1 d2 d3 d4 d5 d6 e0 e1 e2 e3 e4 e5; obtain ⟨d0, d1, d2, d3, d4, d5, d6⟩ := HK.out _ BN.out; obtain ⟨e0, e1, e2, e3, e4, e5⟩ := HJ.out _ BN.out; have l1 := Nat.lt_of_lt_of_le HZ1.out BN.out.size; have l2 := Nat.lt_of_lt_of_le HZ2.out BN.out.size)
    | (go_at_call 19; (with_reducible refine (H5.out _).mono ?_); rintro e wx ⟨rfl, h⟩; replace BN : Hid (Below W.heap.size W wx) := Lib.hid (by first | exact BN.out.trans (h.mono BN.out.size) | exact (BN.out.alloc BN.out.size _).trans (h.mono (Nat.le_trans BN.out.size (by simp)))); clear h l1 l2 d0 d1 d2 d3 d4 d5 d6 e0 e1 e2 e3 e4 e5; obtain ⟨d0, d1, d2, d3, d4, d5, d6⟩ := HK.out _ BN.out; obtain ⟨e0, e1, e2, e3, e4, e5⟩ := HJ.out _ BN.out; have l1 := Nat.lt_of_lt_of_le HZ1.out BN.out.size; have l2 := Nat.lt_of_lt_of_le HZ2.out BN.out.size)
    | (go_at_call 17; (with_reducible refine (H6.out _).mono ?_); rintro e wx ⟨rfl, h⟩; replace BN : Hid (Below W.heap.size W wx) := Lib.hid (by first | exact BN.out.trans (h.mono BN.out.size) | exact (BN.out.alloc BN.out.size _).trans (h.mono (Nat.le_trans BN.out.size (by simp)))); clear h l1 l2 d0 d1 d2 d3 d4 d5 d6 e0 e1 e2 e3 e4 e5; obtain ⟨d0, d1, d2, d3, d4, d5, d6⟩ := HK.out _ BN.out; obtain ⟨e0, e1, e2, e3, e4, e5⟩ := HJ.out _ BN.out; have l1 := Nat.lt_of_lt_of_le HZ1.out BN.out.size; have l2 := Nat.lt_of_lt_of_le HZ2.out BN.out.size)
    | (go_at_call 19; (with_reducible refine (H8.out _).mono ?_); rintro e wx ⟨rfl, h⟩; replace BN : Hid (Below W.heap.size W wx) := Lib.hid (by first | exact BN.out.trans (h.mono BN.out.size) | exact (BN.out.alloc BN.out.size _).trans (h.mono (Nat.le_trans BN.out.size (by simp)))); clear h l1 l2 d0 d1 d2 d3 d4 d5 d6 e0 e1 e2 e3 e4 e5; obtain ⟨d0, d1, d2, d3, d4, d5, d6⟩ := HK.out _ BN.out; obtain ⟨e0, e1, e2, e3, e4, e5⟩ := HJ.out _ BN.out; have l1 := Nat.lt_of_lt_of_le HZ1.out BN.out.size; have l2 := Nat.lt_of_lt_of_le HZ2.out BN.out.size)
    | (go_at_call 10; (with_reducible refine (HAW.out _).mono ?_); rintro e wx ⟨rfl, h⟩; replace BN : Hid (Below W.heap.size W wx) := Lib.hid (by first | exact BN.out.trans (h.mono BN.out.size) | exact (BN.out.alloc BN.out.size _).trans (h.mono (Nat.le_trans BN.out.size (by simp)))); clear h l1 l2 d0 d1 d2 d3 d4 d5 d6 e0 e1 e2 e3 e4 e5; obtain ⟨d0, d1, d2, d3, d4, d5, d6⟩ := HK.out _ BN.out; obtain ⟨e0, e1, e2, e3, e4, e5⟩ := HJ.out _ BN.out; have l1 := Nat.lt_of_lt_of_le HZ1.out BN.out.size; have l2 := Nat.lt_of_lt_of_le HZ2.out BN.out.size))
  go_ret
  exact ⟨rfl, HB0.out.trans ((by first | exact BN.out | exact BN.out.alloc BN.out.size _ : Below W.heap.size W _).mono HB0.out.size)⟩
set_option maxHeartbeats 1000000 in
theorem back_TFTT (X Y L : ByteArray) (o : Int) (s t : ByteArray) (a b c n : Int) (o1 : Int) (s1 : ByteArray) (a1 b1 c1 n1 : Int) (o2 : Int) (s2 t2 : ByteArray) (a2 b2 c2 n2 : Int) (o3 : Int) (s3 : ByteArray) (a3 b3 c3 n3 : Int) (w : World)
    (h1 : ∀ W, Calls Try.prog 11 #[.agg #[.int .i64 o, .string s, .string t, .int .i64 a, .int .i64 b, .int .i64 c, .int .i64 n]] W (RetBelow (.tuple #[.string X, .int .i64 0]) W))
    (h2 : ∀ W, Calls Try.prog 17 #[.string X] W (RetBelow (.tuple #[.agg #[.int .i64 o, .string s, .string t, .int .i64 a, .int .i64 b, .int .i64 c, .int .i64 n], .int .i64 0]) W))
    (h3 : ∀ W, Calls Try.prog 13 #[.agg #[.int .i64 o, .string s, .string t, .int .i64 a, .int .i64 b, .int .i64 c, .int .i64 n]] W (RetBelow (.bool true) W))
    (h4 : ∀ W, Calls Try.prog 21 #[.agg #[.int .i64 o1, .string s1, .int .i64 a1, .int .i64 b1, .int .i64 c1, .int .i64 n1]] W (RetBelow (.tuple #[.string ⟨#[]⟩, .int .i64 4]) W))
    (h6 : ∀ W, Calls Try.prog 17 #[.string L] W (RetBelow (.tuple #[.agg #[.int .i64 o2, .string s2, .string t2, .int .i64 a2, .int .i64 b2, .int .i64 c2, .int .i64 n2], .int .i64 0]) W))
    (h7 : ∀ W, Calls Try.prog 11 #[.agg #[.int .i64 o2, .string s2, .string t2, .int .i64 a2, .int .i64 b2, .int .i64 c2, .int .i64 n2]] W (RetBelow (.tuple #[.string L, .int .i64 0]) W))
    (h8 : ∀ W, Calls Try.prog 19 #[.string L] W (RetBelow (.tuple #[.agg #[.int .i64 o3, .string s3, .int .i64 a3, .int .i64 b3, .int .i64 c3, .int .i64 n3], .int .i64 0]) W))
    (h9 : ∀ W, Calls Try.prog 21 #[.agg #[.int .i64 o3, .string s3, .int .i64 a3, .int .i64 b3, .int .i64 c3, .int .i64 n3]] W (RetBelow (.tuple #[.string L, .int .i64 0]) W)) :
    Calls Try.prog 6 #[.agg #[.int .i64 o, .string s, .string t, .int .i64 a, .int .i64 b, .int .i64 c, .int .i64 n], .agg #[.int .i64 o1, .string s1, .int .i64 a1, .int .i64 b1, .int .i64 c1, .int .i64 n1], .string L] w (RetBelow (.bool true) w) := by
  have H1 := Lib.hid h1
  have H2 := Lib.hid h2
  have H3 := Lib.hid h3
  have H4 := Lib.hid h4
  have H6 := Lib.hid h6
  have H7 := Lib.hid h7
  have H8 := Lib.hid h8
  have H9 := Lib.hid h9
  have HAW := Lib.hid awakeC_any
  clear h1 h2 h3 h4 h6 h7 h8 h9
  have q1 : ∀ V : World, (binOp .neq 25 (.agg #[.int .i64 o, .string s, .string t, .int .i64 a, .int .i64 b, .int .i64 c, .int .i64 n]) (.agg #[.int .i64 o, .string s, .string t, .int .i64 a, .int .i64 b, .int .i64 c, .int .i64 n])).run Try.prog V = .ok (.bool false) V := fun V => by rw [neq25v, eqC_self]; rfl
  have q2 : ∀ V : World, (binOp .neq 34 (.agg #[.int .i64 o1, .string s1, .int .i64 a1, .int .i64 b1, .int .i64 c1, .int .i64 n1]) (.agg #[.int .i64 o1, .string s1, .int .i64 a1, .int .i64 b1, .int .i64 c1, .int .i64 n1])).run Try.prog V = .ok (.bool false) V := fun V => by rw [neq34v, eqR_self]; rfl
  have q3 : ∀ V : World, (binOp .eql 34 (.agg #[.int .i64 0, .string ⟨#[]⟩, .int .i64 0, .int .i64 0, .int .i64 0, .int .i64 0]) (.agg #[.int .i64 0, .string ⟨#[]⟩, .int .i64 0, .int .i64 0, .int .i64 0, .int .i64 0])).run Try.prog V = .ok (.bool true) V := fun V => by rw [eq34v, eqR_self]
  have q4 : ∀ V : World, (Instr.build 34 #[]).run Try.prog V = .ok (.agg #[.int .i64 0, .string ⟨#[]⟩, .int .i64 0, .int .i64 0, .int .i64 0, .int .i64 0]) V := fun V => run_build V 34 _ _ (by kernel_rfl)
  obtain ⟨W, hW⟩ : ∃ W, (w.alloc (.cells #[.int .i64 o, .string s, .string t, .int .i64 a, .int .i64 b, .int .i64 c, .int .i64 n] 25)).alloc (.cells #[.int .i64 o1, .string s1, .int .i64 a1, .int .i64 b1, .int .i64 c1, .int .i64 n1] 34) = W := ⟨_, rfl⟩
  have g1 : W.heap[w.heap.size]? = some (cRowV o s t a b c n) := by rw [← hW]; exact keepAlloc _ (heap_alloc_new w _)
  have g2 : W.heap[w.heap.size + 1]? = some (rRowV o1 s1 a1 b1 c1 n1) := by rw [← hW, show w.heap.size + 1 = (w.alloc (.cells #[.int .i64 o, .string s, .string t, .int .i64 a, .int .i64 b, .int .i64 c, .int .i64 n] 25)).heap.size from by simp]; exact heap_alloc_new _ _
  have hz : W.heap.size = w.heap.size + 2 := by rw [← hW]; simp
  have HB0 : Hid (Below w.heap.size w W) := Lib.hid (by rw [← hW]; exact ((Below.refl _ _).alloc (Nat.le_refl _) _).alloc (by simp) _)
  have HK := Lib.hid (fun V (h : Below W.heap.size W V) => cat_of g1 (by omega) h)
  have HJ := Lib.hid (fun V (h : Below W.heap.size W V) => rat_of g2 (by omega) h)
  have HW := Lib.hid hW
  have l1 : w.heap.size < W.heap.size := by omega
  have l2 : w.heap.size + 1 < W.heap.size := by omega
  have HZ1 := Lib.hid l1
  have HZ2 := Lib.hid l2
  clear hW g1 g2 hz
  have BN := Lib.hid (Below.refl W.heap.size W)
  obtain ⟨d0, d1, d2, d3, d4, d5, d6⟩ := HK.out _ BN.out
  obtain ⟨e0, e1, e2, e3, e4, e5⟩ := HJ.out _ BN.out
  go_enter Try.func6, Try.ntmps6
  go_wp2_with fail
  rw [HW.out]
  go_wp2_with (first
    | (go_at_call 11; (with_reducible refine (H1.out _).mono ?_); rintro e wx ⟨rfl, h⟩; replace BN : Hid (Below W.heap.size W wx) := Lib.hid (by first | exact BN.out.trans (h.mono BN.out.size) | exact (BN.out.alloc BN.out.size _).trans (h.mono (Nat.le_trans BN.out.size (by simp)))); clear h l1 l2 d0 d1 d2 d3 d4 d5 d6 e0 e1 e2 e3 e4 e5; obtain ⟨d0, d1, d2, d3, d4, d5, d6⟩ := HK.out _ BN.out; obtain ⟨e0, e1, e2, e3, e4, e5⟩ := HJ.out _ BN.out; have l1 := Nat.lt_of_lt_of_le HZ1.out BN.out.size; have l2 := Nat.lt_of_lt_of_le HZ2.out BN.out.size)
    | (go_at_call 17; (with_reducible refine (H2.out _).mono ?_); rintro e wx ⟨rfl, h⟩; replace BN : Hid (Below W.heap.size W wx) := Lib.hid (by first | exact BN.out.trans (h.mono BN.out.size) | exact (BN.out.alloc BN.out.size _).trans (h.mono (Nat.le_trans BN.out.size (by simp)))); clear h l1 l2 d0 d1 d2 d3 d4 d5 d6 e0 e1 e2 e3 e4 e5; obtain ⟨d0, d1, d2, d3, d4, d5, d6⟩ := HK.out _ BN.out; obtain ⟨e0, e1, e2, e3, e4, e5⟩ := HJ.out _ BN.out; have l1 := Nat.lt_of_lt_of_le HZ1.out BN.out.size; have l2 := Nat.lt_of_lt_of_le HZ2.out BN.out.size)
    | (go_at_call 13; (with_reducible refine (H3.out _).mono ?_); rintro e wx ⟨rfl, h⟩; replace BN : Hid (Below W.heap.size W wx) := Lib.hid (by first | exact BN.out.trans (h.mono BN.out.size) | exact (BN.out.alloc BN.out.size _).trans (h.mono (Nat.le_trans BN.out.size (by simp)))); clear h l1 l2 d0 d1 d2 d3 d4 d5 d6 e0 e1 e2 e3 e4 e5; obtain ⟨d0, d1, d2, d3, d4, d5, d6⟩ := HK.out _ BN.out; obtain ⟨e0, e1, e2, e3, e4, e5⟩ := HJ.out _ BN.out; have l1 := Nat.lt_of_lt_of_le HZ1.out BN.out.size; have l2 := Nat.lt_of_lt_of_le HZ2.out BN.out.size)
    | (go_at_call 21; (with_reducible refine (H4.out _).mono ?_); rintro e wx ⟨rfl, h⟩; replace BN : Hid (Below W.heap.size W wx) := Lib.hid (by first | exact BN.out.trans (h.mono BN.out.size) | exact (BN.out.alloc BN.out.size _).trans (h.mono (Nat.le_trans BN.out.size (by simp)))); clear h l1 l2 d0 d1 d2 d3 d4 d5 d6 e0 e1 e2 e3 e4 e5; obtain ⟨d0, d1, d2, d3, d4, d5, d6⟩ := HK.out _ BN.out; obtain ⟨e0, e1, e2, e3, e4, e5⟩ := HJ.out _ BN.out; have l1 := Nat.lt_of_lt_of_le HZ1.out BN.out.size; have l2 := Nat.lt_of_lt_of_le HZ2.out BN.out.size)
    | (go_at_call 17; (with_reducible refine (H6.out _).mono ?_); rintro e wx ⟨rfl, h⟩; replace BN : Hid (Below W.heap.size W wx) := Lib.hid (by first | exact BN.out.trans (h.mono BN.out.size) | exact (BN.out.alloc BN.out.size _).trans (h.mono (Nat.le_trans BN.out.size (by simp)))); clear h l1 l2 d0 d1 d2 d3 d4 d5 d6 e0 e1 e2 e3 e4 e5; obtain ⟨d0, d1, d2, d3, d4, d5, d6⟩ := HK.out _ BN.out; obtain ⟨e0, e1, e2, e3, e4, e5⟩ := HJ.out _ BN.out; have l1 := Nat.lt_of_lt_of_le HZ1.out BN.out.size; have l2 := Nat.lt_of_lt_of_le HZ2.out BN.out.size)
    | (go_at_call 11; (with_reducible refine (H7.out _).mono ?_); rintro e wx ⟨rfl, h⟩; replace BN : Hid (Below W.heap.size W wx) := Lib.hid (by first | exact BN.out.trans (h.mono BN.out.size) | exact (BN.out.alloc BN.out.size _).trans (h.mono (Nat.le_trans BN.out.size (by simp)))); clear h l1 l2 d0 d1 d2 d3 d4 d5 d6 e0 e1 e2 e3 e4 e5; obtain ⟨d0, d1, d2, d3, d4, d5, d6⟩ := HK.out _ BN.out; obtain ⟨e0, e1, e2, e3, e4, e5⟩ := HJ.out _ BN.out; have l1 := Nat.lt_of_lt_of_le HZ1.out BN.out.size; have l2 := Nat.lt_of_lt_of_le HZ2.out BN.out.size)
    | (go_at_call 19; (with_reducible refine (H8.out _).mono ?_); rintro e wx ⟨rfl, h⟩; replace BN : Hid (Below W.heap.size W wx) := Lib.hid (by first | exact BN.out.trans (h.mono BN.out.size) | exact (BN.out.alloc BN.out.size _).trans (h.mono (Nat.le_trans BN.out.size (by simp)))); clear h l1 l2 d0 d1 d2 d3 d4 d5 d6 e0 e1 e2 e3 e4 e5; obtain ⟨d0, d1, d2, d3, d4, d5, d6⟩ := HK.out _ BN.out; obtain ⟨e0, e1, e2, e3, e4, e5⟩ := HJ.out _ BN.out; have l1 := Nat.lt_of_lt_of_le HZ1.out BN.out.size; have l2 := Nat.lt_of_lt_of_le HZ2.out BN.out.size)
    | (go_at_call 21; (with_reducible refine (H9.out _).mono ?_); rintro e wx ⟨rfl, h⟩; replace BN : Hid (Below W.heap.size W wx) := Lib.hid (by first | exact BN.out.trans (h.mono BN.out.size) | exact (BN.out.alloc BN.out.size _).trans (h.mono (Nat.le_trans BN.out.size (by simp)))); clear h l1 l2 d0 d1 d2 d3 d4 d5 d6 e0 e1 e2 e3 e4 e5; obtain ⟨d0, d1, d2, d3, d4, d5, d6⟩ := HK.out _ BN.out; obtain ⟨e0, e1, e2, e3, e4, e5⟩ := HJ.out _ BN.out; have l1 := Nat.lt_of_lt_of_le HZ1.out BN.out.size; have l2 := Nat.lt_of_lt_of_le HZ2.out BN.out.size)
    | (go_at_call 10; (with_reducible refine (HAW.out _).mono ?_); rintro e wx ⟨rfl, h⟩; replace BN : Hid (Below W.heap.size W wx) := Lib.hid (by first | exact BN.out.trans (h.mono BN.out.size) | exact (BN.out.alloc BN.out.size _).trans (h.mono (Nat.le_trans BN.out.size (by simp)))); clear h l1 l2 d0 d1 d2 d3 d4 d5 d6 e0 e1 e2 e3 e4 e5; obtain ⟨d0, d1, d2, d3, d4, d5, d6⟩ := HK.out _ BN.out; obtain ⟨e0, e1, e2, e3, e4, e5⟩ := HJ.out _ BN.out; have l1 := Nat.lt_of_lt_of_le HZ1.out BN.out.size; have l2 := Nat.lt_of_lt_of_le HZ2.out BN.out.size))
  go_ret
  exact ⟨rfl, HB0.out.trans ((by first | exact BN.out | exact BN.out.alloc BN.out.size _ : Below W.heap.size W _).mono HB0.out.size)⟩
set_option maxHeartbeats 1000000 in
theorem back_TFTF (X Y L : ByteArray) (o : Int) (s t : ByteArray) (a b c n : Int) (o1 : Int) (s1 : ByteArray) (a1 b1 c1 n1 : Int) (o2 : Int) (s2 t2 : ByteArray) (a2 b2 c2 n2 : Int) (o3 : Int) (s3 : ByteArray) (a3 b3 c3 n3 : Int) (w : World)
    (h1 : ∀ W, Calls Try.prog 11 #[.agg #[.int .i64 o, .string s, .string t, .int .i64 a, .int .i64 b, .int .i64 c, .int .i64 n]] W (RetBelow (.tuple #[.string X, .int .i64 0]) W))
    (h2 : ∀ W, Calls Try.prog 17 #[.string X] W (RetBelow (.tuple #[.agg #[.int .i64 o, .string s, .string t, .int .i64 a, .int .i64 b, .int .i64 c, .int .i64 n], .int .i64 0]) W))
    (h3 : ∀ W, Calls Try.prog 13 #[.agg #[.int .i64 o, .string s, .string t, .int .i64 a, .int .i64 b, .int .i64 c, .int .i64 n]] W (RetBelow (.bool true) W))
    (h4 : ∀ W, Calls Try.prog 21 #[.agg #[.int .i64 o1, .string s1, .int .i64 a1, .int .i64 b1, .int .i64 c1, .int .i64 n1]] W (RetBelow (.tuple #[.string ⟨#[]⟩, .int .i64 4]) W))
    (h6 : ∀ W, Calls Try.prog 17 #[.string L] W (RetBelow (.tuple #[.agg #[.int .i64 o2, .string s2, .string t2, .int .i64 a2, .int .i64 b2, .int .i64 c2, .int .i64 n2], .int .i64 0]) W))
    (h7 : ∀ W, Calls Try.prog 11 #[.agg #[.int .i64 o2, .string s2, .string t2, .int .i64 a2, .int .i64 b2, .int .i64 c2, .int .i64 n2]] W (RetBelow (.tuple #[.string L, .int .i64 0]) W))
    (h8 : ∀ W, Calls Try.prog 19 #[.string L] W (RetBelow (.tuple #[.agg #[.int .i64 0, .string ⟨#[]⟩, .int .i64 0, .int .i64 0, .int .i64 0, .int .i64 0], .int .i64 4]) W)) :
    Calls Try.prog 6 #[.agg #[.int .i64 o, .string s, .string t, .int .i64 a, .int .i64 b, .int .i64 c, .int .i64 n], .agg #[.int .i64 o1, .string s1, .int .i64 a1, .int .i64 b1, .int .i64 c1, .int .i64 n1], .string L] w (RetBelow (.bool true) w) := by
  have H1 := Lib.hid h1
  have H2 := Lib.hid h2
  have H3 := Lib.hid h3
  have H4 := Lib.hid h4
  have H6 := Lib.hid h6
  have H7 := Lib.hid h7
  have H8 := Lib.hid h8
  have HAW := Lib.hid awakeC_any
  clear h1 h2 h3 h4 h6 h7 h8
  have q1 : ∀ V : World, (binOp .neq 25 (.agg #[.int .i64 o, .string s, .string t, .int .i64 a, .int .i64 b, .int .i64 c, .int .i64 n]) (.agg #[.int .i64 o, .string s, .string t, .int .i64 a, .int .i64 b, .int .i64 c, .int .i64 n])).run Try.prog V = .ok (.bool false) V := fun V => by rw [neq25v, eqC_self]; rfl
  have q2 : ∀ V : World, (binOp .neq 34 (.agg #[.int .i64 o1, .string s1, .int .i64 a1, .int .i64 b1, .int .i64 c1, .int .i64 n1]) (.agg #[.int .i64 o1, .string s1, .int .i64 a1, .int .i64 b1, .int .i64 c1, .int .i64 n1])).run Try.prog V = .ok (.bool false) V := fun V => by rw [neq34v, eqR_self]; rfl
  have q3 : ∀ V : World, (binOp .eql 34 (.agg #[.int .i64 0, .string ⟨#[]⟩, .int .i64 0, .int .i64 0, .int .i64 0, .int .i64 0]) (.agg #[.int .i64 0, .string ⟨#[]⟩, .int .i64 0, .int .i64 0, .int .i64 0, .int .i64 0])).run Try.prog V = .ok (.bool true) V := fun V => by rw [eq34v, eqR_self]
  have q4 : ∀ V : World, (Instr.build 34 #[]).run Try.prog V = .ok (.agg #[.int .i64 0, .string ⟨#[]⟩, .int .i64 0, .int .i64 0, .int .i64 0, .int .i64 0]) V := fun V => run_build V 34 _ _ (by kernel_rfl)
  obtain ⟨W, hW⟩ : ∃ W, (w.alloc (.cells #[.int .i64 o, .string s, .string t, .int .i64 a, .int .i64 b, .int .i64 c, .int .i64 n] 25)).alloc (.cells #[.int .i64 o1, .string s1, .int .i64 a1, .int .i64 b1, .int .i64 c1, .int .i64 n1] 34) = W := ⟨_, rfl⟩
  have g1 : W.heap[w.heap.size]? = some (cRowV o s t a b c n) := by rw [← hW]; exact keepAlloc _ (heap_alloc_new w _)
  have g2 : W.heap[w.heap.size + 1]? = some (rRowV o1 s1 a1 b1 c1 n1) := by rw [← hW, show w.heap.size + 1 = (w.alloc (.cells #[.int .i64 o, .string s, .string t, .int .i64 a, .int .i64 b, .int .i64 c, .int .i64 n] 25)).heap.size from by simp]; exact heap_alloc_new _ _
  have hz : W.heap.size = w.heap.size + 2 := by rw [← hW]; simp
  have HB0 : Hid (Below w.heap.size w W) := Lib.hid (by rw [← hW]; exact ((Below.refl _ _).alloc (Nat.le_refl _) _).alloc (by simp) _)
  have HK := Lib.hid (fun V (h : Below W.heap.size W V) => cat_of g1 (by omega) h)
  have HJ := Lib.hid (fun V (h : Below W.heap.size W V) => rat_of g2 (by omega) h)
  have HW := Lib.hid hW
  have l1 : w.heap.size < W.heap.size := by omega
  have l2 : w.heap.size + 1 < W.heap.size := by omega
  have HZ1 := Lib.hid l1
  have HZ2 := Lib.hid l2
  clear hW g1 g2 hz
  have BN := Lib.hid (Below.refl W.heap.size W)
  obtain ⟨d0, d1, d2, d3, d4, d5, d6⟩ := HK.out _ BN.out
  obtain ⟨e0, e1, e2, e3, e4, e5⟩ := HJ.out _ BN.out
  go_enter Try.func6, Try.ntmps6
  go_wp2_with fail
  rw [HW.out]
  go_wp2_with (first
    | (go_at_call 11; (with_reducible refine (H1.out _).mono ?_); rintro e wx ⟨rfl, h⟩; replace BN : Hid (Below W.heap.size W wx) := Lib.hid (by first | exact BN.out.trans (h.mono BN.out.size) | exact (BN.out.alloc BN.out.size _).trans (h.mono (Nat.le_trans BN.out.size (by simp)))); clear h l1 l2 d0 d1 d2 d3 d4 d5 d6 e0 e1 e2 e3 e4 e5; obtain ⟨d0, d1, d2, d3, d4, d5, d6⟩ := HK.out _ BN.out; obtain ⟨e0, e1, e2, e3, e4, e5⟩ := HJ.out _ BN.out; have l1 := Nat.lt_of_lt_of_le HZ1.out BN.out.size; have l2 := Nat.lt_of_lt_of_le HZ2.out BN.out.size)
    | (go_at_call 17; (with_reducible refine (H2.out _).mono ?_); rintro e wx ⟨rfl, h⟩; replace BN : Hid (Below W.heap.size W wx) := Lib.hid (by first | exact BN.out.trans (h.mono BN.out.size) | exact (BN.out.alloc BN.out.size _).trans (h.mono (Nat.le_trans BN.out.size (by simp)))); clear h l1 l2 d0 d1 d2 d3 d4 d5 d6 e0 e1 e2 e3 e4 e5; obtain ⟨d0, d1, d2, d3, d4, d5, d6⟩ := HK.out _ BN.out; obtain ⟨e0, e1, e2, e3, e4, e5⟩ := HJ.out _ BN.out; have l1 := Nat.lt_of_lt_of_le HZ1.out BN.out.size; have l2 := Nat.lt_of_lt_of_le HZ2.out BN.out.size)
    | (go_at_call 13; (with_reducible refine (H3.out _).mono ?_); rintro e wx ⟨rfl, h⟩; replace BN : Hid (Below W.heap.size W wx) := Lib.hid (by first | exact BN.out.trans (h.mono BN.out.size) | exact (BN.out.alloc BN.out.size _).trans (h.mono (Nat.le_trans BN.out.size (by simp)))); clear h l1 l2 d0 d1 d2 d3 d4 d5 d6 e0 e1 e2 e3 e4 e5; obtain ⟨d0, d1, d2, d3, d4, d5, d6⟩ := HK.out _ BN.out; obtain ⟨e0, e1, e2, e3, e4, e5⟩ := HJ.out _ BN.out; have l1 := Nat.lt_of_lt_of_le HZ1.out BN.out.size; have l2 := Nat.lt_of_lt_of_le HZ2.out BN.out.size)
    | (go_at_call 21; (with_reducible refine (H4.out _).mono ?_); rintro e wx ⟨rfl, h⟩; replace BN : Hid (Below W.heap.size W wx) := Lib.hid (by first | exact BN.out.trans (h.mono BN.out.size) | exact (BN.out.alloc BN.out.size _).trans (h.mono (Nat.le_trans BN.out.size (by simp)))); clear h l1 l2 d0 d1 d2 d3 d4 d5 d6 e0 e1 e2 e3 e4 e5; obtain ⟨d0, d1, d2, d3, d4, d5, d6⟩ := HK.out _ BN.out; obtain ⟨e0, e1, e2, e3, e4, e5⟩ := HJ.out _ BN.out; have l1 := Nat.lt_of_lt_of_le HZ1.out BN.out.size; have l2 := Nat.lt_of_lt_of_le HZ2.out BN.out.size)
    | (go_at_call 17; (with_reducible refine (H6.out _).mono ?_); rintro e wx ⟨rfl, h⟩; replace BN : Hid (Below W.heap.size W wx) := Lib.hid (by first | exact BN.out.trans (h.mono BN.out.size) | exact (BN.out.alloc BN.out.size _).trans (h.mono (Nat.le_trans BN.out.size (by simp)))); clear h l1 l2 d0 d1 d2 d3 d4 d5 d6 e0 e1 e2 e3 e4 e5; obtain ⟨d0, d1, d2, d3, d4, d5, d6⟩ := HK.out _ BN.out; obtain ⟨e0, e1, e2, e3, e4, e5⟩ := HJ.out _ BN.out; have l1 := Nat.lt_of_lt_of_le HZ1.out BN.out.size; have l2 := Nat.lt_of_lt_of_le HZ2.out BN.out.size)
    | (go_at_call 11; (with_reducible refine (H7.out _).mono ?_); rintro e wx ⟨rfl, h⟩; replace BN : Hid (Below W.heap.size W wx) := Lib.hid (by first | exact BN.out.trans (h.mono BN.out.size) | exact (BN.out.alloc BN.out.size _).trans (h.mono (Nat.le_trans BN.out.size (by simp)))); clear h l1 l2 d0 d1 d2 d3 d4 d5 d6 e0 e1 e2 e3 e4 e5; obtain ⟨d0, d1, d2, d3, d4, d5, d6⟩ := HK.out _ BN.out; obtain ⟨e0, e1, e2, e3, e4, e5⟩ := HJ.out _ BN.out; have l1 := Nat.lt_of_lt_of_le HZ1.out BN.out.size; have l2 := Nat.lt_of_lt_of_le HZ2.out BN.out.size)
    | (go_at_call 19; (with_reducible refine (H8.out _).mono ?_); rintro e wx ⟨rfl, h⟩; replace BN : Hid (Below W.heap.size W wx) := Lib.hid (by first | exact BN.out.trans (h.mono BN.out.size) | exact (BN.out.alloc BN.out.size _).trans (h.mono (Nat.le_trans BN.out.size (by simp)))); clear h l1 l2 d0 d1 d2 d3 d4 d5 d6 e0 e1 e2 e3 e4 e5; obtain ⟨d0, d1, d2, d3, d4, d5, d6⟩ := HK.out _ BN.out; obtain ⟨e0, e1, e2, e3, e4, e5⟩ := HJ.out _ BN.out; have l1 := Nat.lt_of_lt_of_le HZ1.out BN.out.size; have l2 := Nat.lt_of_lt_of_le HZ2.out BN.out.size)
    | (go_at_call 10; (with_reducible refine (HAW.out _).mono ?_); rintro e wx ⟨rfl, h⟩; replace BN : Hid (Below W.heap.size W wx) := Lib.hid (by first | exact BN.out.trans (h.mono BN.out.size) | exact (BN.out.alloc BN.out.size _).trans (h.mono (Nat.le_trans BN.out.size (by simp)))); clear h l1 l2 d0 d1 d2 d3 d4 d5 d6 e0 e1 e2 e3 e4 e5; obtain ⟨d0, d1, d2, d3, d4, d5, d6⟩ := HK.out _ BN.out; obtain ⟨e0, e1, e2, e3, e4, e5⟩ := HJ.out _ BN.out; have l1 := Nat.lt_of_lt_of_le HZ1.out BN.out.size; have l2 := Nat.lt_of_lt_of_le HZ2.out BN.out.size))
  go_ret
  exact ⟨rfl, HB0.out.trans ((by first | exact BN.out | exact BN.out.alloc BN.out.size _ : Below W.heap.size W _).mono HB0.out.size)⟩
set_option maxHeartbeats 1000000 in
theorem back_TFFT (X Y L : ByteArray) (o : Int) (s t : ByteArray) (a b c n : Int) (o1 : Int) (s1 : ByteArray) (a1 b1 c1 n1 : Int) (o2 : Int) (s2 t2 : ByteArray) (a2 b2 c2 n2 : Int) (o3 : Int) (s3 : ByteArray) (a3 b3 c3 n3 : Int) (w : World)
    (h1 : ∀ W, Calls Try.prog 11 #[.agg #[.int .i64 o, .string s, .string t, .int .i64 a, .int .i64 b, .int .i64 c, .int .i64 n]] W (RetBelow (.tuple #[.string X, .int .i64 0]) W))
    (h2 : ∀ W, Calls Try.prog 17 #[.string X] W (RetBelow (.tuple #[.agg #[.int .i64 o, .string s, .string t, .int .i64 a, .int .i64 b, .int .i64 c, .int .i64 n], .int .i64 0]) W))
    (h3 : ∀ W, Calls Try.prog 13 #[.agg #[.int .i64 o, .string s, .string t, .int .i64 a, .int .i64 b, .int .i64 c, .int .i64 n]] W (RetBelow (.bool true) W))
    (h4 : ∀ W, Calls Try.prog 21 #[.agg #[.int .i64 o1, .string s1, .int .i64 a1, .int .i64 b1, .int .i64 c1, .int .i64 n1]] W (RetBelow (.tuple #[.string ⟨#[]⟩, .int .i64 4]) W))
    (h6 : ∀ W, Calls Try.prog 17 #[.string L] W (RetBelow (.tuple #[.agg #[.int .i64 0, .string ⟨#[]⟩, .string ⟨#[]⟩, .int .i64 0, .int .i64 0, .int .i64 0, .int .i64 0], .int .i64 4]) W))
    (h8 : ∀ W, Calls Try.prog 19 #[.string L] W (RetBelow (.tuple #[.agg #[.int .i64 o3, .string s3, .int .i64 a3, .int .i64 b3, .int .i64 c3, .int .i64 n3], .int .i64 0]) W))
    (h9 : ∀ W, Calls Try.prog 21 #[.agg #[.int .i64 o3, .string s3, .int .i64 a3, .int .i64 b3, .int .i64 c3, .int .i64 n3]] W (RetBelow (.tuple #[.string L, .int .i64 0]) W)) :
    Calls Try.prog 6 #[.agg #[.int .i64 o, .string s, .string t, .int .i64 a, .int .i64 b, .int .i64 c, .int .i64 n], .agg #[.int .i64 o1, .string s1, .int .i64 a1, .int .i64 b1, .int .i64 c1, .int .i64 n1], .string L] w (RetBelow (.bool true) w) := by
  have H1 := Lib.hid h1
  have H2 := Lib.hid h2
  have H3 := Lib.hid h3
  have H4 := Lib.hid h4
  have H6 := Lib.hid h6
  have H8 := Lib.hid h8
  have H9 := Lib.hid h9
  have HAW := Lib.hid awakeC_any
  clear h1 h2 h3 h4 h6 h8 h9
  have q1 : ∀ V : World, (binOp .neq 25 (.agg #[.int .i64 o, .string s, .string t, .int .i64 a, .int .i64 b, .int .i64 c, .int .i64 n]) (.agg #[.int .i64 o, .string s, .string t, .int .i64 a, .int .i64 b, .int .i64 c, .int .i64 n])).run Try.prog V = .ok (.bool false) V := fun V => by rw [neq25v, eqC_self]; rfl
  have q2 : ∀ V : World, (binOp .neq 34 (.agg #[.int .i64 o1, .string s1, .int .i64 a1, .int .i64 b1, .int .i64 c1, .int .i64 n1]) (.agg #[.int .i64 o1, .string s1, .int .i64 a1, .int .i64 b1, .int .i64 c1, .int .i64 n1])).run Try.prog V = .ok (.bool false) V := fun V => by rw [neq34v, eqR_self]; rfl
  have q3 : ∀ V : World, (binOp .eql 34 (.agg #[.int .i64 0, .string ⟨#[]⟩, .int .i64 0, .int .i64 0, .int .i64 0, .int .i64 0]) (.agg #[.int .i64 0, .string ⟨#[]⟩, .int .i64 0, .int .i64 0, .int .i64 0, .int .i64 0])).run Try.prog V = .ok (.bool true) V := fun V => by rw [eq34v, eqR_self]
  have q4 : ∀ V : World, (Instr.build 34 #[]).run Try.prog V = .ok (.agg #[.int .i64 0, .string ⟨#[]⟩, .int .i64 0, .int .i64 0, .int .i64 0, .int .i64 0]) V := fun V => run_build V 34 _ _ (by kernel_rfl)
  obtain ⟨W, hW⟩ : ∃ W, (w.alloc (.cells #[.int .i64 o, .string s, .string t, .int .i64 a, .int .i64 b, .int .i64 c, .int .i64 n] 25)).alloc (.cells #[.int .i64 o1, .string s1, .int .i64 a1, .int .i64 b1, .int .i64 c1, .int .i64 n1] 34) = W := ⟨_, rfl⟩
  have g1 : W.heap[w.heap.size]? = some (cRowV o s t a b c n) := by rw [← hW]; exact keepAlloc _ (heap_alloc_new w _)
  have g2 : W.heap[w.heap.size + 1]? = some (rRowV o1 s1 a1 b1 c1 n1) := by rw [← hW, show w.heap.size + 1 = (w.alloc (.cells #[.int .i64 o, .string s, .string t, .int .i64 a, .int .i64 b, .int .i64 c, .int .i64 n] 25)).heap.size from by simp]; exact heap_alloc_new _ _
  have hz : W.heap.size = w.heap.size + 2 := by rw [← hW]; simp
  have HB0 : Hid (Below w.heap.size w W) := Lib.hid (by rw [← hW]; exact ((Below.refl _ _).alloc (Nat.le_refl _) _).alloc (by simp) _)
  have HK := Lib.hid (fun V (h : Below W.heap.size W V) => cat_of g1 (by omega) h)
  have HJ := Lib.hid (fun V (h : Below W.heap.size W V) => rat_of g2 (by omega) h)
  have HW := Lib.hid hW
  have l1 : w.heap.size < W.heap.size := by omega
  have l2 : w.heap.size + 1 < W.heap.size := by omega
  have HZ1 := Lib.hid l1
  have HZ2 := Lib.hid l2
  clear hW g1 g2 hz
  have BN := Lib.hid (Below.refl W.heap.size W)
  obtain ⟨d0, d1, d2, d3, d4, d5, d6⟩ := HK.out _ BN.out
  obtain ⟨e0, e1, e2, e3, e4, e5⟩ := HJ.out _ BN.out
  go_enter Try.func6, Try.ntmps6
  go_wp2_with fail
  rw [HW.out]
  go_wp2_with (first
    | (go_at_call 11; (with_reducible refine (H1.out _).mono ?_); rintro e wx ⟨rfl, h⟩; replace BN : Hid (Below W.heap.size W wx) := Lib.hid (by first | exact BN.out.trans (h.mono BN.out.size) | exact (BN.out.alloc BN.out.size _).trans (h.mono (Nat.le_trans BN.out.size (by simp)))); clear h l1 l2 d0 d1 d2 d3 d4 d5 d6 e0 e1 e2 e3 e4 e5; obtain ⟨d0, d1, d2, d3, d4, d5, d6⟩ := HK.out _ BN.out; obtain ⟨e0, e1, e2, e3, e4, e5⟩ := HJ.out _ BN.out; have l1 := Nat.lt_of_lt_of_le HZ1.out BN.out.size; have l2 := Nat.lt_of_lt_of_le HZ2.out BN.out.size)
    | (go_at_call 17; (with_reducible refine (H2.out _).mono ?_); rintro e wx ⟨rfl, h⟩; replace BN : Hid (Below W.heap.size W wx) := Lib.hid (by first | exact BN.out.trans (h.mono BN.out.size) | exact (BN.out.alloc BN.out.size _).trans (h.mono (Nat.le_trans BN.out.size (by simp)))); clear h l1 l2 d0 d1 d2 d3 d4 d5 d6 e0 e1 e2 e3 e4 e5; obtain ⟨d0, d1, d2, d3, d4, d5, d6⟩ := HK.out _ BN.out; obtain ⟨e0, e1, e2, e3, e4, e5⟩ := HJ.out _ BN.out; have l1 := Nat.lt_of_lt_of_le HZ1.out BN.out.size; have l2 := Nat.lt_of_lt_of_le HZ2.out BN.out.size)
    | (go_at_call 13; (with_reducible refine (H3.out _).mono ?_); rintro e wx ⟨rfl, h⟩; replace BN : Hid (Below W.heap.size W wx) := Lib.hid (by first | exact BN.out.trans (h.mono BN.out.size) | exact (BN.out.alloc BN.out.size _).trans (h.mono (Nat.le_trans BN.out.size (by simp)))); clear h l1 l2 d0 d1 d2 d3 d4 d5 d6 e0 e1 e2 e3 e4 e5; obtain ⟨d0, d1, d2, d3, d4, d5, d6⟩ := HK.out _ BN.out; obtain ⟨e0, e1, e2, e3, e4, e5⟩ := HJ.out _ BN.out; have l1 := Nat.lt_of_lt_of_le HZ1.out BN.out.size; have l2 := Nat.lt_of_lt_of_le HZ2.out BN.out.size)
    | (go_at_call 21; (with_reducible refine (H4.out _).mono ?_); rintro e wx ⟨rfl, h⟩; replace BN : Hid (Below W.heap.size W wx) := Lib.hid (by first | exact BN.out.trans (h.mono BN.out.size) | exact (BN.out.alloc BN.out.size _).trans (h.mono (Nat.le_trans BN.out.size (by simp)))); clear h l1 l2 d0 d1 d2 d3 d4 d5 d6 e0 e1 e2 e3 e4 e5; obtain ⟨d0, d1, d2, d3, d4, d5, d6⟩ := HK.out _ BN.out; obtain ⟨e0, e1, e2, e3, e4, e5⟩ := HJ.out _ BN.out; have l1 := Nat.lt_of_lt_of_le HZ1.out BN.out.size; have l2 := Nat.lt_of_lt_of_le HZ2.out BN.out.size)
    | (go_at_call 17; (with_reducible refine (H6.out _).mono ?_); rintro e wx ⟨rfl, h⟩; replace BN : Hid (Below W.heap.size W wx) := Lib.hid (by first | exact BN.out.trans (h.mono BN.out.size) | exact (BN.out.alloc BN.out.size _).trans (h.mono (Nat.le_trans BN.out.size (by simp)))); clear h l1 l2 d0 d1 d2 d3 d4 d5 d6 e0 e1 e2 e3 e4 e5; obtain ⟨d0, d1, d2, d3, d4, d5, d6⟩ := HK.out _ BN.out; obtain ⟨e0, e1, e2, e3, e4, e5⟩ := HJ.out _ BN.out; have l1 := Nat.lt_of_lt_of_le HZ1.out BN.out.size; have l2 := Nat.lt_of_lt_of_le HZ2.out BN.out.size)
    | (go_at_call 19; (with_reducible refine (H8.out _).mono ?_); rintro e wx ⟨rfl, h⟩; replace BN : Hid (Below W.heap.size W wx) := Lib.hid (by first | exact BN.out.trans (h.mono BN.out.size) | exact (BN.out.alloc BN.out.size _).trans (h.mono (Nat.le_trans BN.out.size (by simp)))); clear h l1 l2 d0 d1 d2 d3 d4 d5 d6 e0 e1 e2 e3 e4 e5; obtain ⟨d0, d1, d2, d3, d4, d5, d6⟩ := HK.out _ BN.out; obtain ⟨e0, e1, e2, e3, e4, e5⟩ := HJ.out _ BN.out; have l1 := Nat.lt_of_lt_of_le HZ1.out BN.out.size; have l2 := Nat.lt_of_lt_of_le HZ2.out BN.out.size)
    | (go_at_call 21; (with_reducible refine (H9.out _).mono ?_); rintro e wx ⟨rfl, h⟩; replace BN : Hid (Below W.heap.size W wx) := Lib.hid (by first | exact BN.out.trans (h.mono BN.out.size) | exact (BN.out.alloc BN.out.size _).trans (h.mono (Nat.le_trans BN.out.size (by simp)))); clear h l1 l2 d0 d1 d2 d3 d4 d5 d6 e0 e1 e2 e3 e4 e5; obtain ⟨d0, d1, d2, d3, d4, d5, d6⟩ := HK.out _ BN.out; obtain ⟨e0, e1, e2, e3, e4, e5⟩ := HJ.out _ BN.out; have l1 := Nat.lt_of_lt_of_le HZ1.out BN.out.size; have l2 := Nat.lt_of_lt_of_le HZ2.out BN.out.size)
    | (go_at_call 10; (with_reducible refine (HAW.out _).mono ?_); rintro e wx ⟨rfl, h⟩; replace BN : Hid (Below W.heap.size W wx) := Lib.hid (by first | exact BN.out.trans (h.mono BN.out.size) | exact (BN.out.alloc BN.out.size _).trans (h.mono (Nat.le_trans BN.out.size (by simp)))); clear h l1 l2 d0 d1 d2 d3 d4 d5 d6 e0 e1 e2 e3 e4 e5; obtain ⟨d0, d1, d2, d3, d4, d5, d6⟩ := HK.out _ BN.out; obtain ⟨e0, e1, e2, e3, e4, e5⟩ := HJ.out _ BN.out; have l1 := Nat.lt_of_lt_of_le HZ1.out BN.out.size; have l2 := Nat.lt_of_lt_of_le HZ2.out BN.out.size))
  go_ret
  exact ⟨rfl, HB0.out.trans ((by first | exact BN.out | exact BN.out.alloc BN.out.size _ : Below W.heap.size W _).mono HB0.out.size)⟩
set_option maxHeartbeats 1000000 in
theorem back_TFFF (X Y L : ByteArray) (o : Int) (s t : ByteArray) (a b c n : Int) (o1 : Int) (s1 : ByteArray) (a1 b1 c1 n1 : Int) (o2 : Int) (s2 t2 : ByteArray) (a2 b2 c2 n2 : Int) (o3 : Int) (s3 : ByteArray) (a3 b3 c3 n3 : Int) (w : World)
    (h1 : ∀ W, Calls Try.prog 11 #[.agg #[.int .i64 o, .string s, .string t, .int .i64 a, .int .i64 b, .int .i64 c, .int .i64 n]] W (RetBelow (.tuple #[.string X, .int .i64 0]) W))
    (h2 : ∀ W, Calls Try.prog 17 #[.string X] W (RetBelow (.tuple #[.agg #[.int .i64 o, .string s, .string t, .int .i64 a, .int .i64 b, .int .i64 c, .int .i64 n], .int .i64 0]) W))
    (h3 : ∀ W, Calls Try.prog 13 #[.agg #[.int .i64 o, .string s, .string t, .int .i64 a, .int .i64 b, .int .i64 c, .int .i64 n]] W (RetBelow (.bool true) W))
    (h4 : ∀ W, Calls Try.prog 21 #[.agg #[.int .i64 o1, .string s1, .int .i64 a1, .int .i64 b1, .int .i64 c1, .int .i64 n1]] W (RetBelow (.tuple #[.string ⟨#[]⟩, .int .i64 4]) W))
    (h6 : ∀ W, Calls Try.prog 17 #[.string L] W (RetBelow (.tuple #[.agg #[.int .i64 0, .string ⟨#[]⟩, .string ⟨#[]⟩, .int .i64 0, .int .i64 0, .int .i64 0, .int .i64 0], .int .i64 4]) W))
    (h8 : ∀ W, Calls Try.prog 19 #[.string L] W (RetBelow (.tuple #[.agg #[.int .i64 0, .string ⟨#[]⟩, .int .i64 0, .int .i64 0, .int .i64 0, .int .i64 0], .int .i64 4]) W)) :
    Calls Try.prog 6 #[.agg #[.int .i64 o, .string s, .string t, .int .i64 a, .int .i64 b, .int .i64 c, .int .i64 n], .agg #[.int .i64 o1, .string s1, .int .i64 a1, .int .i64 b1, .int .i64 c1, .int .i64 n1], .string L] w (RetBelow (.bool true) w) := by
  have H1 := Lib.hid h1
  have H2 := Lib.hid h2
  have H3 := Lib.hid h3
  have H4 := Lib.hid h4
  have H6 := Lib.hid h6
  have H8 := Lib.hid h8
  have HAW := Lib.hid awakeC_any
  clear h1 h2 h3 h4 h6 h8
  have q1 : ∀ V : World, (binOp .neq 25 (.agg #[.int .i64 o, .string s, .string t, .int .i64 a, .int .i64 b, .int .i64 c, .int .i64 n]) (.agg #[.int .i64 o, .string s, .string t, .int .i64 a, .int .i64 b, .int .i64 c, .int .i64 n])).run Try.prog V = .ok (.bool false) V := fun V => by rw [neq25v, eqC_self]; rfl
  have q2 : ∀ V : World, (binOp .neq 34 (.agg #[.int .i64 o1, .string s1, .int .i64 a1, .int .i64 b1, .int .i64 c1, .int .i64 n1]) (.agg #[.int .i64 o1, .string s1, .int .i64 a1, .int .i64 b1, .int .i64 c1, .int .i64 n1])).run Try.prog V = .ok (.bool false) V := fun V => by rw [neq34v, eqR_self]; rfl
  have q3 : ∀ V : World, (binOp .eql 34 (.agg #[.int .i64 0, .string ⟨#[]⟩, .int .i64 0, .int .i64 0, .int .i64 0, .int .i64 0]) (.agg #[.int .i64 0, .string ⟨#[]⟩, .int .i64 0, .int .i64 0, .int .i64 0, .int .i64 0])).run Try.prog V = .ok (.bool true) V := fun V => by rw [eq34v, eqR_self]
  have q4 : ∀ V : World, (Instr.build 34 #[]).run Try.prog V = .ok (.agg #[.int .i64 0, .string ⟨#[]⟩, .int .i64 0, .int .i64 0, .int .i64 0, .int .i64 0]) V := fun V => run_build V 34 _ _ (by kernel_rfl)
  obtain ⟨W, hW⟩ : ∃ W, (w.alloc (.cells #[.int .i64 o, .string s, .string t, .int .i64 a, .int .i64 b, .int .i64 c, .int .i64 n] 25)).alloc (.cells #[.int .i64 o1, .string s1, .int .i64 a1, .int .i64 b1, .int .i64 c1, .int .i64 n1] 34) = W := ⟨_, rfl⟩
  have g1 : W.heap[w.heap.size]? = some (cRowV o s t a b c n) := by rw [← hW]; exact keepAlloc _ (heap_alloc_new w _)
  have g2 : W.heap[w.heap.size + 1]? = some (rRowV o1 s1 a1 b1 c1 n1) := by rw [← hW, show w.heap.size + 1 = (w.alloc (.cells #[.int .i64 o, .string s, .string t, .int .i64 a, .int .i64 b, .int .i64 c, .int .i64 n] 25)).heap.size from by simp]; exact heap_alloc_new _ _
  have hz : W.heap.size = w.heap.size + 2 := by rw [← hW]; simp
  have HB0 : Hid (Below w.heap.size w W) := Lib.hid (by rw [← hW]; exact ((Below.refl _ _).alloc (Nat.le_refl _) _).alloc (by simp) _)
  have HK := Lib.hid (fun V (h : Below W.heap.size W V) => cat_of g1 (by omega) h)
  have HJ := Lib.hid (fun V (h : Below W.heap.size W V) => rat_of g2 (by omega) h)
  have HW := Lib.hid hW
  have l1 : w.heap.size < W.heap.size := by omega
  have l2 : w.heap.size + 1 < W.heap.size := by omega
  have HZ1 := Lib.hid l1
  have HZ2 := Lib.hid l2
  clear hW g1 g2 hz
  have BN := Lib.hid (Below.refl W.heap.size W)
  obtain ⟨d0, d1, d2, d3, d4, d5, d6⟩ := HK.out _ BN.out
  obtain ⟨e0, e1, e2, e3, e4, e5⟩ := HJ.out _ BN.out
  go_enter Try.func6, Try.ntmps6
  go_wp2_with fail
  rw [HW.out]
  go_wp2_with (first
    | (go_at_call 11; (with_reducible refine (H1.out _).mono ?_); rintro e wx ⟨rfl, h⟩; replace BN : Hid (Below W.heap.size W wx) := Lib.hid (by first | exact BN.out.trans (h.mono BN.out.size) | exact (BN.out.alloc BN.out.size _).trans (h.mono (Nat.le_trans BN.out.size (by simp)))); clear h l1 l2 d0 d1 d2 d3 d4 d5 d6 e0 e1 e2 e3 e4 e5; obtain ⟨d0, d1, d2, d3, d4, d5, d6⟩ := HK.out _ BN.out; obtain ⟨e0, e1, e2, e3, e4, e5⟩ := HJ.out _ BN.out; have l1 := Nat.lt_of_lt_of_le HZ1.out BN.out.size; have l2 := Nat.lt_of_lt_of_le HZ2.out BN.out.size)
    | (go_at_call 17; (with_reducible refine (H2.out _).mono ?_); rintro e wx ⟨rfl, h⟩; replace BN : Hid (Below W.heap.size W wx) := Lib.hid (by first | exact BN.out.trans (h.mono BN.out.size) | exact (BN.out.alloc BN.out.size _).trans (h.mono (Nat.le_trans BN.out.size (by simp)))); clear h l1 l2 d0 d1 d2 d3 d4 d5 d6 e0 e1 e2 e3 e4 e5; obtain ⟨d0, d1, d2, d3, d4, d5, d6⟩ := HK.out _ BN.out; obtain ⟨e0, e1, e2, e3, e4, e5⟩ := HJ.out _ BN.out; have l1 := Nat.lt_of_lt_of_le HZ1.out BN.out.size; have l2 := Nat.lt_of_lt_of_le HZ2.out BN.out.size)
    | (go_at_call 13; (with_reducible refine (H3.out _).mono ?_); rintro e wx ⟨rfl, h⟩; replace BN : Hid (Below W.heap.size W wx) := Lib.hid (by first | exact BN.out.trans (h.mono BN.out.size) | exact (BN.out.alloc BN.out.size _).trans (h.mono (Nat.le_trans BN.out.size (by simp)))); clear h l1 l2 d0 d1 d2 d3 d4 d5 d6 e0 e1 e2 e3 e4 e5; obtain ⟨d0, d1, d2, d3, d4, d5, d6⟩ := HK.out _ BN.out; obtain ⟨e0, e1, e2, e3, e4, e5⟩ := HJ.out _ BN.out; have l1 := Nat.lt_of_lt_of_le HZ1.out BN.out.size; have l2 := Nat.lt_of_lt_of_le HZ2.out BN.out.size)
    | (go_at_call 21; (with_reducible refine (H4.out _).mono ?_); rintro e wx ⟨rfl, h⟩; replace BN : Hid (Below W.heap.size W wx) := Lib.hid (by first | exact BN.out.trans (h.mono BN.out.size) | exact (BN.out.alloc BN.out.size _).trans (h.mono (Nat.le_trans BN.out.size (by simp)))); clear h l1 l2 d0 d1 d2 d3 d4 d5 d6 e0 e1 e2 e3 e4 e5; obtain ⟨d0, d1, d2, d3, d4, d5, d6⟩ := HK.out _ BN.out; obtain ⟨e0, e1, e2, e3, e4, e5⟩ := HJ.out _ BN.out; have l1 := Nat.lt_of_lt_of_le HZ1.out BN.out.size; have l2 := Nat.lt_of_lt_of_le HZ2.out BN.out.size)
    | (go_at_call 17; (with_reducible refine (H6.out _).mono ?_); rintro e wx ⟨rfl, h⟩; replace BN : Hid (Below W.heap.size W wx) := Lib.hid (by first | exact BN.out.trans (h.mono BN.out.size) | exact (BN.out.alloc BN.out.size _).trans (h.mono (Nat.le_trans BN.out.size (by simp)))); clear h l1 l2 d0 d1 d2 d3 d4 d5 d6 e0 e1 e2 e3 e4 e5; obtain ⟨d0, d1, d2, d3, d4, d5, d6⟩ := HK.out _ BN.out; obtain ⟨e0, e1, e2, e3, e4, e5⟩ := HJ.out _ BN.out; have l1 := Nat.lt_of_lt_of_le HZ1.out BN.out.size; have l2 := Nat.lt_of_lt_of_le HZ2.out BN.out.size)
    | (go_at_call 19; (with_reducible refine (H8.out _).mono ?_); rintro e wx ⟨rfl, h⟩; replace BN : Hid (Below W.heap.size W wx) := Lib.hid (by first | exact BN.out.trans (h.mono BN.out.size) | exact (BN.out.alloc BN.out.size _).trans (h.mono (Nat.le_trans BN.out.size (by simp)))); clear h l1 l2 d0 d1 d2 d3 d4 d5 d6 e0 e1 e2 e3 e4 e5; obtain ⟨d0, d1, d2, d3, d4, d5, d6⟩ := HK.out _ BN.out; obtain ⟨e0, e1, e2, e3, e4, e5⟩ := HJ.out _ BN.out; have l1 := Nat.lt_of_lt_of_le HZ1.out BN.out.size; have l2 := Nat.lt_of_lt_of_le HZ2.out BN.out.size)
    | (go_at_call 10; (with_reducible refine (HAW.out _).mono ?_); rintro e wx ⟨rfl, h⟩; replace BN : Hid (Below W.heap.size W wx) := Lib.hid (by first | exact BN.out.trans (h.mono BN.out.size) | exact (BN.out.alloc BN.out.size _).trans (h.mono (Nat.le_trans BN.out.size (by simp)))); clear h l1 l2 d0 d1 d2 d3 d4 d5 d6 e0 e1 e2 e3 e4 e5; obtain ⟨d0, d1, d2, d3, d4, d5, d6⟩ := HK.out _ BN.out; obtain ⟨e0, e1, e2, e3, e4, e5⟩ := HJ.out _ BN.out; have l1 := Nat.lt_of_lt_of_le HZ1.out BN.out.size; have l2 := Nat.lt_of_lt_of_le HZ2.out BN.out.size))
  go_ret
  exact ⟨rfl, HB0.out.trans ((by first | exact BN.out | exact BN.out.alloc BN.out.size _ : Below W.heap.size W _).mono HB0.out.size)⟩
set_option maxHeartbeats 1000000 in
theorem back_FTTT (X Y L : ByteArray) (o : Int) (s t : ByteArray) (a b c n : Int) (o1 : Int) (s1 : ByteArray) (a1 b1 c1 n1 : Int) (o2 : Int) (s2 t2 : ByteArray) (a2 b2 c2 n2 : Int) (o3 : Int) (s3 : ByteArray) (a3 b3 c3 n3 : Int) (w : World)
    (h1 : ∀ W, Calls Try.prog 11 #[.agg #[.int .i64 o, .string s, .string t, .int .i64 a, .int .i64 b, .int .i64 c, .int .i64 n]] W (RetBelow (.tuple #[.string ⟨#[]⟩, .int .i64 4]) W))
    (h4 : ∀ W, Calls Try.prog 21 #[.agg #[.int .i64 o1, .string s1, .int .i64 a1, .int .i64 b1, .int .i64 c1, .int .i64 n1]] W (RetBelow (.tuple #[.string Y, .int .i64 0]) W))
    (h5 : ∀ W, Calls Try.prog 19 #[.string Y] W (RetBelow (.tuple #[.agg #[.int .i64 o1, .string s1, .int .i64 a1, .int .i64 b1, .int .i64 c1, .int .i64 n1], .int .i64 0]) W))
    (h6 : ∀ W, Calls Try.prog 17 #[.string L] W (RetBelow (.tuple #[.agg #[.int .i64 o2, .string s2, .string t2, .int .i64 a2, .int .i64 b2, .int .i64 c2, .int .i64 n2], .int .i64 0]) W))
    (h7 : ∀ W, Calls Try.prog 11 #[.agg #[.int .i64 o2, .string s2, .string t2, .int .i64 a2, .int .i64 b2, .int .i64 c2, .int .i64 n2]] W (RetBelow (.tuple #[.string L, .int .i64 0]) W))
    (h8 : ∀ W, Calls Try.prog 19 #[.string L] W (RetBelow (.tuple #[.agg #[.int .i64 o3, .string s3, .int .i64 a3, .int .i64 b3, .int .i64 c3, .int .i64 n3], .int .i64 0]) W))
    (h9 : ∀ W, Calls Try.prog 21 #[.agg #[.int .i64 o3, .string s3, .int .i64 a3, .int .i64 b3, .int .i64 c3, .int .i64 n3]] W (RetBelow (.tuple #[.string L, .int .i64 0]) W)) :
    Calls Try.prog 6 #[.agg #[.int .i64 o, .string s, .string t, .int .i64 a, .int .i64 b, .int .i64 c, .int .i64 n], .agg #[.int .i64 o1, .string s1, .int .i64 a1, .int .i64 b1, .int .i64 c1, .int .i64 n1], .string L] w (RetBelow (.bool true) w) := by
  have H1 := Lib.hid h1
  have H4 := Lib.hid h4
  have H5 := Lib.hid h5
  have H6 := Lib.hid h6
  have H7 := Lib.hid h7
  have H8 := Lib.hid h8
  have H9 := Lib.hid h9
  have HAW := Lib.hid awakeC_any
  clear h1 h4 h5 h6 h7 h8 h9
  have q1 : ∀ V : World, (binOp .neq 25 (.agg #[.int .i64 o, .string s, .string t, .int .i64 a, .int .i64 b, .int .i64 c, .int .i64 n]) (.agg #[.int .i64 o, .string s, .string t, .int .i64 a, .int .i64 b, .int .i64 c, .int .i64 n])).run Try.prog V = .ok (.bool false) V := fun V => by rw [neq25v, eqC_self]; rfl
  have q2 : ∀ V : World, (binOp .neq 34 (.agg #[.int .i64 o1, .string s1, .int .i64 a1, .int .i64 b1, .int .i64 c1, .int .i64 n1]) (.agg #[.int .i64 o1, .string s1, .int .i64 a1, .int .i64 b1, .int .i64 c1, .int .i64 n1])).run Try.prog V = .ok (.bool false) V := fun V => by rw [neq34v, eqR_self]; rfl
  have q3 : ∀ V : World, (binOp .eql 34 (.agg #[.int .i64 0, .string ⟨#[]⟩, .int .i64 0, .int .i64 0, .int .i64 0, .int .i64 0]) (.agg #[.int .i64 0, .string ⟨#[]⟩, .int .i64 0, .int .i64 0, .int .i64 0, .int .i64 0])).run Try.prog V = .ok (.bool true) V := fun V => by rw [eq34v, eqR_self]
  have q4 : ∀ V : World, (Instr.build 34 #[]).run Try.prog V = .ok (.agg #[.int .i64 0, .string ⟨#[]⟩, .int .i64 0, .int .i64 0, .int .i64 0, .int .i64 0]) V := fun V => run_build V 34 _ _ (by kernel_rfl)
  obtain ⟨W, hW⟩ : ∃ W, (w.alloc (.cells #[.int .i64 o, .string s, .string t, .int .i64 a, .int .i64 b, .int .i64 c, .int .i64 n] 25)).alloc (.cells #[.int .i64 o1, .string s1, .int .i64 a1, .int .i64 b1, .int .i64 c1, .int .i64 n1] 34) = W := ⟨_, rfl⟩
  have g1 : W.heap[w.heap.size]? = some (cRowV o s t a b c n) := by rw [← hW]; exact keepAlloc _ (heap_alloc_new w _)
  have g2 : W.heap[w.heap.size + 1]? = some (rRowV o1 s1 a1 b1 c1 n1) := by rw [← hW, show w.heap.size + 1 = (w.alloc (.cells #[.int .i64 o, .string s, .string t, .int .i64 a, .int .i64 b, .int .i64 c, .int .i64 n] 25)).heap.size from by simp]; exact heap_alloc_new _ _
  have hz : W.heap.size = w.heap.size + 2 := by rw [← hW]; simp
  have HB0 : Hid (Below w.heap.size w W) := Lib.hid (by rw [← hW]; exact ((Below.refl _ _).alloc (Nat.le_refl _) _).alloc (by simp) _)
  have HK := Lib.hid (fun V (h : Below W.heap.size W V) => cat_of g1 (by omega) h)
  have HJ := Lib.hid (fun V (h : Below W.heap.size W V) => rat_of g2 (by omega) h)
  have HW := Lib.hid hW
  have l1 : w.heap.size < W.heap.size := by omega
  have l2 : w.heap.size + 1 < W.heap.size := by omega
  have HZ1 := Lib.hid l1
  have HZ2 := Lib.hid l2
  clear hW g1 g2 hz
  have BN := Lib.hid (Below.refl W.heap.size W)
  obtain ⟨d0, d1, d2, d3, d4, d5, d6⟩ := HK.out _ BN.out
  obtain ⟨e0, e1, e2, e3, e4, e5⟩ := HJ.out _ BN.out
  go_enter Try.func6, Try.ntmps6
  go_wp2_with fail
  rw [HW.out]
  go_wp2_with (first
    | (go_at_call 11; (with_reducible refine (H1.out _).mono ?_); rintro e wx ⟨rfl, h⟩; replace BN : Hid (Below W.heap.size W wx) := Lib.hid (by first | exact BN.out.trans (h.mono BN.out.size) | exact (BN.out.alloc BN.out.size _).trans (h.mono (Nat.le_trans BN.out.size (by simp)))); clear h l1 l2 d0 d1 d2 d3 d4 d5 d6 e0 e1 e2 e3 e4 e5; obtain ⟨d0, d1, d2, d3, d4, d5, d6⟩ := HK.out _ BN.out; obtain ⟨e0, e1, e2, e3, e4, e5⟩ := HJ.out _ BN.out; have l1 := Nat.lt_of_lt_of_le HZ1.out BN.out.size; have l2 := Nat.lt_of_lt_of_le HZ2.out BN.out.size)
    | (go_at_call 21; (with_reducible refine (H4.out _).mono ?_); rintro e wx ⟨rfl, h⟩; replace BN : Hid (Below W.heap.size W wx) := Lib.hid (by first | exact BN.out.trans (h.mono BN.out.size) | exact (BN.out.alloc BN.out.size _).trans (h.mono (Nat.le_trans BN.out.size (by simp)))); clear h l1 l2 d0 d1 d2 d3 d4 d5 d6 e0 e1 e2 e3 e4 e5; obtain ⟨d0, d1, d2, d3, d4, d5, d6⟩ := HK.out _ BN.out; obtain ⟨e0, e1, e2, e3, e4, e5⟩ := HJ.out _ BN.out; have l1 := Nat.lt_of_lt_of_le HZ1.out BN.out.size; have l2 := Nat.lt_of_lt_of_le HZ2.out BN.out.size)
    | (go_at_call 19; (with_reducible refine (H5.out _).mono ?_); rintro e wx ⟨rfl, h⟩; replace BN : Hid (Below W.heap.size W wx) := Lib.hid (by first | exact BN.out.trans (h.mono BN.out.size) | exact (BN.out.alloc BN.out.size _).trans (h.mono (Nat.le_trans BN.out.size (by simp)))); clear h l1 l2 d0 d1 d2 d3 d4 d5 d6 e0 e1 e2 e3 e4 e5; obtain ⟨d0, d1, d2, d3, d4, d5, d6⟩ := HK.out _ BN.out; obtain ⟨e0, e1, e2, e3, e4, e5⟩ := HJ.out _ BN.out; have l1 := Nat.lt_of_lt_of_le HZ1.out BN.out.size; have l2 := Nat.lt_of_lt_of_le HZ2.out BN.out.size)
    | (go_at_call 17; (with_reducible refine (H6.out _).mono ?_); rintro e wx ⟨rfl, h⟩; replace BN : Hid (Below W.heap.size W wx) := Lib.hid (by first | exact BN.out.trans (h.mono BN.out.size) | exact (BN.out.alloc BN.out.size _).trans (h.mono (Nat.le_trans BN.out.size (by simp)))); clear h l1 l2 d0 d1 d2 d3 d4 d5 d6 e0 e1 e2 e3 e4 e5; obtain ⟨d0, d1, d2, d3, d4, d5, d6⟩ := HK.out _ BN.out; obtain ⟨e0, e1, e2, e3, e4, e5⟩ := HJ.out _ BN.out; have l1 := Nat.lt_of_lt_of_le HZ1.out BN.out.size; have l2 := Nat.lt_of_lt_of_le HZ2.out BN.out.size)
    | (go_at_call 11; (with_reducible refine (H7.out _).mono ?_); rintro e wx ⟨rfl, h⟩; replace BN : Hid (Below W.heap.size W wx) := Lib.hid (by first | exact BN.out.trans (h.mono BN.out.size) | exact (BN.out.alloc BN.out.size _).trans (h.mono (Nat.le_trans BN.out.size (by simp)))); clear h l1 l2 d0 d1 d2 d3 d4 d5 d6 e0 e1 e2 e3 e4 e5; obtain ⟨d0, d1, d2, d3, d4, d5, d6⟩ := HK.out _ BN.out; obtain ⟨e0, e1, e2, e3, e4, e5⟩ := HJ.out _ BN.out; have l1 := Nat.lt_of_lt_of_le HZ1.out BN.out.size; have l2 := Nat.lt_of_lt_of_le HZ2.out BN.out.size)
    | (go_at_call 19; (with_reducible refine (H8.out _).mono ?_); rintro e wx ⟨rfl, h⟩; replace BN : Hid (Below W.heap.size W wx) := Lib.hid (by first | exact BN.out.trans (h.mono BN.out.size) | exact (BN.out.alloc BN.out.size _).trans (h.mono (Nat.le_trans BN.out.size (by simp)))); clear h l1 l2 d0 d1 d2 d3 d4 d5 d6 e0 e1 e2 e3 e4 e5; obtain ⟨d0, d1, d2, d3, d4, d5, d6⟩ := HK.out _ BN.out; obtain ⟨e0, e1, e2, e3, e4, e5⟩ := HJ.out _ BN.out; have l1 := Nat.lt_of_lt_of_le HZ1.out BN.out.size; have l2 := Nat.lt_of_lt_of_le HZ2.out BN.out.size)
    | (go_at_call 21; (with_reducible refine (H9.out _).mono ?_); rintro e wx ⟨rfl, h⟩; replace BN : Hid (Below W.heap.size W wx) := Lib.hid (by first | exact BN.out.trans (h.mono BN.out.size) | exact (BN.out.alloc BN.out.size _).trans (h.mono (Nat.le_trans BN.out.size (by simp)))); clear h l1 l2 d0 d1 d2 d3 d4 d5 d6 e0 e1 e2 e3 e4 e5; obtain ⟨d0, d1, d2, d3, d4, d5, d6⟩ := HK.out _ BN.out; obtain ⟨e0, e1, e2, e3, e4, e5⟩ := HJ.out _ BN.out; have l1 := Nat.lt_of_lt_of_le HZ1.out BN.out.size; have l2 := Nat.lt_of_lt_of_le HZ2.out BN.out.size)
    | (go_at_call 10; (with_reducible refine (HAW.out _).mono ?_); rintro e wx ⟨rfl, h⟩; replace BN : Hid (Below W.heap.size W wx) := Lib.hid (by first | exact BN.out.trans (h.mono BN.out.size) | exact (BN.out.alloc BN.out.size _).trans (h.mono (Nat.le_trans BN.out.size (by simp)))); clear h l1 l2 d0 d1 d2 d3 d4 d5 d6 e0 e1 e2 e3 e4 e5; obtain ⟨d0, d1, d2, d3, d4, d5, d6⟩ := HK.out _ BN.out; obtain ⟨e0, e1, e2, e3, e4, e5⟩ := HJ.out _ BN.out; have l1 := Nat.lt_of_lt_of_le HZ1.out BN.out.size; have l2 := Nat.lt_of_lt_of_le HZ2.out BN.out.size))
  go_ret
  exact ⟨rfl, HB0.out.trans ((by first | exact BN.out | exact BN.out.alloc BN.out.size _ : Below W.heap.size W _).mono HB0.out.size)⟩
set_option maxHeartbeats 1000000 in
theorem back_FTTF (X Y L : ByteArray) (o : Int) (s t : ByteArray) (a b c n : Int) (o1 : Int) (s1 : ByteArray) (a1 b1 c1 n1 : Int) (o2 : Int) (s2 t2 : ByteArray) (a2 b2 c2 n2 : Int) (o3 : Int) (s3 : ByteArray) (a3 b3 c3 n3 : Int) (w : World)
    (h1 : ∀ W, Calls Try.prog 11 #[.agg #[.int .i64 o, .string s, .string t, .int .i64 a, .int .i64 b, .int .i64 c, .int .i64 n]] W (RetBelow (.tuple #[.string ⟨#[]⟩, .int .i64 4]) W))
    (h4 : ∀ W, Calls Try.prog 21 #[.agg #[.int .i64 o1, .string s1, .int .i64 a1, .int .i64 b1, .int .i64 c1, .int .i64 n1]] W (RetBelow (.tuple #[.string Y, .int .i64 0]) W))
    (h5 : ∀ W, Calls Try.prog 19 #[.string Y] W (RetBelow (.tuple #[.agg #[.int .i64 o1, .string s1, .int .i64 a1, .int .i64 b1, .int .i64 c1, .int .i64 n1], .int .i64 0]) W))
    (h6 : ∀ W, Calls Try.prog 17 #[.string L] W (RetBelow (.tuple #[.agg #[.int .i64 o2, .string s2, .string t2, .int .i64 a2, .int .i64 b2, .int .i64 c2, .int .i64 n2], .int .i64 0]) W))
    (h7 : ∀ W, Calls Try.prog 11 #[.agg #[.int .i64 o2, .string s2, .string t2, .int .i64 a2, .int .i64 b2, .int .i64 c2, .int .i64 n2]] W (RetBelow (.tuple #[.string L, .int .i64 0]) W))
    (h8 : ∀ W, Calls Try.prog 19 #[.string L] W (RetBelow (.tuple #[.agg #[.int .i64 0, .string ⟨#[]⟩, .int .i64 0, .int .i64 0, .int .i64 0, .int .i64 0], .int .i64 4]) W)) :
    Calls Try.prog 6 #[.agg #[.int .i64 o, .string s, .string t, .int .i64 a, .int .i64 b, .int .i64 c, .int .i64 n], .agg #[.int .i64 o1, .string s1, .int .i64 a1, .int .i64 b1, .int .i64 c1, .int .i64 n1], .string L] w (RetBelow (.bool true) w) := by
  have H1 := Lib.hid h1
  have H4 := Lib.hid h4
  have H5 := Lib.hid h5
  have H6 := Lib.hid h6
  have H7 := Lib.hid h7
  have H8 := Lib.hid h8
  have HAW := Lib.hid awakeC_any
  clear h1 h4 h5 h6 h7 h8
  have q1 : ∀ V : World, (binOp .neq 25 (.agg #[.int .i64 o, .string s, .string t, .int .i64 a, .int .i64 b, .int .i64 c, .int .i64 n]) (.agg #[.int .i64 o, .string s, .string t, .int .i64 a, .int .i64 b, .int .i64 c, .int .i64 n])).run Try.prog V = .ok (.bool false) V := fun V => by rw [neq25v, eqC_self]; rfl
  have q2 : ∀ V : World, (binOp .neq 34 (.agg #[.int .i64 o1, .string s1, .int .i64 a1, .int .i64 b1, .int .i64 c1, .int .i64 n1]) (.agg #[.int .i64 o1, .string s1, .int .i64 a1, .int .i64 b1, .int .i64 c1, .int .i64 n1])).run Try.prog V = .ok (.bool false) V := fun V => by rw [neq34v, eqR_self]; rfl
  have q3 : ∀ V : World, (binOp .eql 34 (.agg #[.int .i64 0, .string ⟨#[]⟩, .int .i64 0, .int .i64 0, .int .i64 0, .int .i64 0]) (.agg #[.int .i64 0, .string ⟨#[]⟩, .int .i64 0, .int .i64 0, .int .i64 0, .int .i64 0])).run Try.prog V = .ok (.bool true) V := fun V => by rw [eq34v, eqR_self]
  have q4 : ∀ V : World, (Instr.build 34 #[]).run Try.prog V = .ok (.agg #[.int .i64 0, .string ⟨#[]⟩, .int .i64 0, .int .i64 0, .int .i64 0, .int .i64 0]) V := fun V => run_build V 34 _ _ (by kernel_rfl)
  obtain ⟨W, hW⟩ : ∃ W, (w.alloc (.cells #[.int .i64 o, .string s, .string t, .int .i64 a, .int .i64 b, .int .i64 c, .int .i64 n] 25)).alloc (.cells #[.int .i64 o1, .string s1, .int .i64 a1, .int .i64 b1, .int .i64 c1, .int .i64 n1] 34) = W := ⟨_, rfl⟩
  have g1 : W.heap[w.heap.size]? = some (cRowV o s t a b c n) := by rw [← hW]; exact keepAlloc _ (heap_alloc_new w _)
  have g2 : W.heap[w.heap.size + 1]? = some (rRowV o1 s1 a1 b1 c1 n1) := by rw [← hW, show w.heap.size + 1 = (w.alloc (.cells #[.int .i64 o, .string s, .string t, .int .i64 a, .int .i64 b, .int .i64 c, .int .i64 n] 25)).heap.size from by simp]; exact heap_alloc_new _ _
  have hz : W.heap.size = w.heap.size + 2 := by rw [← hW]; simp
  have HB0 : Hid (Below w.heap.size w W) := Lib.hid (by rw [← hW]; exact ((Below.refl _ _).alloc (Nat.le_refl _) _).alloc (by simp) _)
  have HK := Lib.hid (fun V (h : Below W.heap.size W V) => cat_of g1 (by omega) h)
  have HJ := Lib.hid (fun V (h : Below W.heap.size W V) => rat_of g2 (by omega) h)
  have HW := Lib.hid hW
  have l1 : w.heap.size < W.heap.size := by omega
  have l2 : w.heap.size + 1 < W.heap.size := by omega
  have HZ1 := Lib.hid l1
  have HZ2 := Lib.hid l2
  clear hW g1 g2 hz
  have BN := Lib.hid (Below.refl W.heap.size W)
  obtain ⟨d0, d1, d2, d3, d4, d5, d6⟩ := HK.out _ BN.out
  obtain ⟨e0, e1, e2, e3, e4, e5⟩ := HJ.out _ BN.out
  go_enter Try.func6, Try.ntmps6
  go_wp2_with fail
  rw [HW.out]
  go_wp2_with (first
    | (go_at_call 11; (with_reducible refine (H1.out _).mono ?_); rintro e wx ⟨rfl, h⟩; replace BN : Hid (Below W.heap.size W wx) := Lib.hid (by first | exact BN.out.trans (h.mono BN.out.size) | exact (BN.out.alloc BN.out.size _).trans (h.mono (Nat.le_trans BN.out.size (by simp)))); clear h l1 l2 d0 d1 d2 d3 d4 d5 d6 e0 e1 e2 e3 e4 e5; obtain ⟨d0, d1, d2, d3, d4, d5, d6⟩ := HK.out _ BN.out; obtain ⟨e0, e1, e2, e3, e4, e5⟩ := HJ.out _ BN.out; have l1 := Nat.lt_of_lt_of_le HZ1.out BN.out.size; have l2 := Nat.lt_of_lt_of_le HZ2.out BN.out.size)
    | (go_at_call 21; (with_reducible refine (H4.out _).mono ?_); rintro e wx ⟨rfl, h⟩; replace BN : Hid (Below W.heap.size W wx) := Lib.hid (by first | exact BN.out.trans (h.mono BN.out.size) | exact (BN.out.alloc BN.out.size _).trans (h.mono (Nat.le_trans BN.out.size (by simp)))); clear h l1 l2 d0 d1 d2 d3 d4 d5 d6 e0 e1 e2 e3 e4 e5; obtain ⟨d0, d1, d2, d3, d4, d5, d6⟩ := HK.out _ BN.out; obtain ⟨e0, e1, e2, e3, e4, e5⟩ := HJ.out _ BN.out; have l1 := Nat.lt_of_lt_of_le HZ1.out BN.out.size; have l2 := Nat.lt_of_lt_of_le HZ2.out BN.out.size)
    | (go_at_call 19; (with_reducible refine (H5.out _).mono ?_); rintro e wx ⟨rfl, h⟩; replace BN : Hid (Below W.heap.size W wx) := Lib.hid (by first | exact BN.out.trans (h.mono BN.out.size) | exact (BN.out.alloc BN.out.size _).trans (h.mono (Nat.le_trans BN.out.size (by simp)))); clear h l1 l2 d0 d1 d2 d3 d4 d5 d6 e0 e1 e2 e3 e4 e5; obtain ⟨d0, d1, d2, d3, d4, d5, d6⟩ := HK.out _ BN.out; obtain ⟨e0, e1, e2, e3, e4, e5⟩ := HJ.out _ BN.out; have l1 := Nat.lt_of_lt_of_le HZ1.out BN.out.size; have l2 := Nat.lt_of_lt_of_le HZ2.out BN.out.size)
    | (go_at_call 17; (with_reducible refine (H6.out _).mono ?_); rintro e wx ⟨rfl, h⟩; replace BN : Hid (Below W.heap.size W wx) := Lib.hid (by first | exact BN.out.trans (h.mono BN.out.size) | exact (BN.out.alloc BN.out.size _).trans (h.mono (Nat.le_trans BN.out.size (by simp)))); clear h l1 l2 d0 d1 d2 d3 d4 d5 d6 e0 e1 e2 e3 e4 e5; obtain ⟨d0, d1, d2, d3, d4, d5, d6⟩ := HK.out _ BN.out; obtain ⟨e0, e1, e2, e3, e4, e5⟩ := HJ.out _ BN.out; have l1 := Nat.lt_of_lt_of_le HZ1.out BN.out.size; have l2 := Nat.lt_of_lt_of_le HZ2.out BN.out.size)
    | (go_at_call 11; (with_reducible refine (H7.out _).mono ?_); rintro e wx ⟨rfl, h⟩; replace BN : Hid (Below W.heap.size W wx) := Lib.hid (by first | exact BN.out.trans (h.mono BN.out.size) | exact (BN.out.alloc BN.out.size _).trans (h.mono (Nat.le_trans BN.out.size (by simp)))); clear h l1 l2 d0 d1 d2 d3 d4 d5 d6 e0 e1 e2 e3 e4 e5; obtain ⟨d0, d1, d2, d3, d4, d5, d6⟩ := HK.out _ BN.out; obtain ⟨e0, e1, e2, e3, e4, e5⟩ := HJ.out _ BN.out; have l1 := Nat.lt_of_lt_of_le HZ1.out BN.out.size; have l2 := Nat.lt_of_lt_of_le HZ2.out BN.out.size)
    | (go_at_call 19; (with_reducible refine (H8.out _).mono ?_); rintro e wx ⟨rfl, h⟩; replace BN : Hid (Below W.heap.size W wx) := Lib.hid (by first | exact BN.out.trans (h.mono BN.out.size) | exact (BN.out.alloc BN.out.size _).trans (h.mono (Nat.le_trans BN.out.size (by simp)))); clear h l1 l2 d0 d1 d2 d3 d4 d5 d6 e0 e1 e2 e3 e4 e5; obtain ⟨d0, d1, d2, d3, d4, d5, d6⟩ := HK.out _ BN.out; obtain ⟨e0, e1, e2, e3, e4, e5⟩ := HJ.out _ BN.out; have l1 := Nat.lt_of_lt_of_le HZ1.out BN.out.size; have l2 := Nat.lt_of_lt_of_le HZ2.out BN.out.size)
    | (go_at_call 10; (with_reducible refine (HAW.out _).mono ?_); rintro e wx ⟨rfl, h⟩; replace BN : Hid (Below W.heap.size W wx) := Lib.hid (by first | exact BN.out.trans (h.mono BN.out.size) | exact (BN.out.alloc BN.out.size _).trans (h.mono (Nat.le_trans BN.out.size (by simp)))); clear h l1 l2 d0 d1 d2 d3 d4 d5 d6 e0 e1 e2 e3 e4 e5; obtain ⟨d0, d1, d2, d3, d4, d5, d6⟩ := HK.out _ BN.out; obtain ⟨e0, e1, e2, e3, e4, e5⟩ := HJ.out _ BN.out; have l1 := Nat.lt_of_lt_of_le HZ1.out BN.out.size; have l2 := Nat.lt_of_lt_of_le HZ2.out BN.out.size))
  go_ret
  exact ⟨rfl, HB0.out.trans ((by first | exact BN.out | exact BN.out.alloc BN.out.size _ : Below W.heap.size W _).mono HB0.out.size)⟩
set_option maxHeartbeats 1000000 in
theorem back_FTFT (X Y L : ByteArray) (o : Int) (s t : ByteArray) (a b c n : Int) (o1 : Int) (s1 : ByteArray) (a1 b1 c1 n1 : Int) (o2 : Int) (s2 t2 : ByteArray) (a2 b2 c2 n2 : Int) (o3 : Int) (s3 : ByteArray) (a3 b3 c3 n3 : Int) (w : World)
    (h1 : ∀ W, Calls Try.prog 11 #[.agg #[.int .i64 o, .string s, .string t, .int .i64 a, .int .i64 b, .int .i64 c, .int .i64 n]] W (RetBelow (.tuple #[.string ⟨#[]⟩, .int .i64 4]) W))
    (h4 : ∀ W, Calls Try.prog 21 #[.agg #[.int .i64 o1, .string s1, .int .i64 a1, .int .i64 b1, .int .i64 c1, .int .i64 n1]] W (RetBelow (.tuple #[.string Y, .int .i64 0]) W))
    (h5 : ∀ W, Calls Try.prog 19 #[.string Y] W (RetBelow (.tuple #[.agg #[.int .i64 o1, .string s1, .int .i64 a1, .int .i64 b1, .int .i64 c1, .int .i64 n1], .int .i64 0]) W))
    (h6 : ∀ W, Calls Try.prog 17 #[.string L] W (RetBelow (.tuple #[.agg #[.int .i64 0, .string ⟨#[]⟩, .string ⟨#[]⟩, .int .i64 0, .int .i64 0, .int .i64 0, .int .i64 0], .int .i64 4]) W))
    (h8 : ∀ W, Calls Try.prog 19 #[.string L] W (RetBelow (.tuple #[.agg #[.int .i64 o3, .string s3, .int .i64 a3, .int .i64 b3, .int .i64 c3, .int .i64 n3], .int .i64 0]) W))
    (h9 : ∀ W, Calls Try.prog 21 #[.agg #[.int .i64 o3, .string s3, .int .i64 a3, .int .i64 b3, .int .i64 c3, .int .i64 n3]] W (RetBelow (.tuple #[.string L, .int .i64 0]) W)) :
    Calls Try.prog 6 #[.agg #[.int .i64 o, .string s, .string t, .int .i64 a, .int .i64 b, .int .i64 c, .int .i64 n], .agg #[.int .i64 o1, .string s1, .int .i64 a1, .int .i64 b1, .int .i64 c1, .int .i64 n1], .string L] w (RetBelow (.bool true) w) := by
  have H1 := Lib.hid h1
  have H4 := Lib.hid h4
  have H5 := Lib.hid h5
  have H6 := Lib.hid h6
  have H8 := Lib.hid h8
  have H9 := Lib.hid h9
  have HAW := Lib.hid awakeC_any
  clear h1 h4 h5 h6 h8 h9
  have q1 : ∀ V : World, (binOp .neq 25 (.agg #[.int .i64 o, .string s, .string t, .int .i64 a, .int .i64 b, .int .i64 c, .int .i64 n]) (.agg #[.int .i64 o, .string s, .string t, .int .i64 a, .int .i64 b, .int .i64 c, .int .i64 n])).run Try.prog V = .ok (.bool false) V := fun V => by rw [neq25v, eqC_self]; rfl
  have q2 : ∀ V : World, (binOp .neq 34 (.agg #[.int .i64 o1, .string s1, .int .i64 a1, .int .i64 b1, .int .i64 c1, .int .i64 n1]) (.agg #[.int .i64 o1, .string s1, .int .i64 a1, .int .i64 b1, .int .i64 c1, .int .i64 n1])).run Try.prog V = .ok (.bool false) V := fun V => by rw [neq34v, eqR_self]; rfl
  have q3 : ∀ V : World, (binOp .eql 34 (.agg #[.int .i64 0, .string ⟨#[]⟩, .int .i64 0, .int .i64 0, .int .i64 0, .int .i64 0]) (.agg #[.int .i64 0, .string ⟨#[]⟩, .int .i64 0, .int .i64 0, .int .i64 0, .int .i64 0])).run Try.prog V = .ok (.bool true) V := fun V => by rw [eq34v, eqR_self]
  have q4 : ∀ V : World, (Instr.build 34 #[]).run Try.prog V = .ok (.agg #[.int .i64 0, .string ⟨#[]⟩, .int .i64 0, .int .i64 0, .int .i64 0, .int .i64 0]) V := fun V => run_build V 34 _ _ (by kernel_rfl)
  obtain ⟨W, hW⟩ : ∃ W, (w.alloc (.cells #[.int .i64 o, .string s, .string t, .int .i64 a, .int .i64 b, .int .i64 c, .int .i64 n] 25)).alloc (.cells #[.int .i64 o1, .string s1, .int .i64 a1, .int .i64 b1, .int .i64 c1, .int .i64 n1] 34) = W := ⟨_, rfl⟩
  have g1 : W.heap[w.heap.size]? = some (cRowV o s t a b c n) := by rw [← hW]; exact keepAlloc _ (heap_alloc_new w _)
  have g2 : W.heap[w.heap.size + 1]? = some (rRowV o1 s1 a1 b1 c1 n1) := by rw [← hW, show w.heap.size + 1 = (w.alloc (.cells #[.int .i64 o, .string s, .string t, .int .i64 a, .int .i64 b, .int .i64 c, .int .i64 n] 25)).heap.size from by simp]; exact heap_alloc_new _ _
  have hz : W.heap.size = w.heap.size + 2 := by rw [← hW]; simp
  have HB0 : Hid (Below w.heap.size w W) := Lib.hid (by rw [← hW]; exact ((Below.refl _ _).alloc (Nat.le_refl _) _).alloc (by simp) _)
  have HK := Lib.hid (fun V (h : Below W.heap.size W V) => cat_of g1 (by omega) h)
  have HJ := Lib.hid (fun V (h : Below W.heap.size W V) => rat_of g2 (by omega) h)
  have HW := Lib.hid hW
  have l1 : w.heap.size < W.heap.size := by omega
  have l2 : w.heap.size + 1 < W.heap.size := by omega
  have HZ1 := Lib.hid l1
  have HZ2 := Lib.hid l2
  clear hW g1 g2 hz
  have BN := Lib.hid (Below.refl W.heap.size W)
  obtain ⟨d0, d1, d2, d3, d4, d5, d6⟩ := HK.out _ BN.out
  obtain ⟨e0, e1, e2, e3, e4, e5⟩ := HJ.out _ BN.out
  go_enter Try.func6, Try.ntmps6
  go_wp2_with fail
  rw [HW.out]
  go_wp2_with (first
    | (go_at_call 11; (with_reducible refine (H1.out _).mono ?_); rintro e wx ⟨rfl, h⟩; replace BN : Hid (Below W.heap.size W wx) := Lib.hid (by first | exact BN.out.trans (h.mono BN.out.size) | exact (BN.out.alloc BN.out.size _).trans (h.mono (Nat.le_trans BN.out.size (by simp)))); clear h l1 l2 d0 d1 d2 d3 d4 d5 d6 e0 e1 e2 e3 e4 e5; obtain ⟨d0, d1, d2, d3, d4, d5, d6⟩ := HK.out _ BN.out; obtain ⟨e0, e1, e2, e3, e4, e5⟩ := HJ.out _ BN.out; have l1 := Nat.lt_of_lt_of_le HZ1.out BN.out.size; have l2 := Nat.lt_of_lt_of_le HZ2.out BN.out.size)
    | (go_at_call 21; (with_reducible refine (H4.out _).mono ?_); rintro e wx ⟨rfl, h⟩; replace BN : Hid (Below W.heap.size W wx) := Lib.hid (by first | exact BN.out.trans (h.mono BN.out.size) | exact (BN.out.alloc BN.out.size _).trans (h.mono (Nat.le_trans BN.out.size (by simp)))); clear h l1 l2 d0 d1 d2 d3 d4 d5 d6 e0 e1 e2 e3 e4 e5; obtain ⟨d0, d1, d2, d3, d4, d5, d6⟩ := HK.out _ BN.out; obtain ⟨e0, e1, e2, e3, e4, e5⟩ := HJ.out _ BN.out; have l1 := Nat.lt_of_lt_of_le HZ1.out BN.out.size; have l2 := Nat.lt_of_lt_of_le HZ2.out BN.out.size)
    | (go_at_call 19; (with_reducible refine (H5.out _).mono ?_); rintro e wx ⟨rfl, h⟩; replace BN : Hid (Below W.heap.size W wx) := Lib.hid (by first | exact BN.out.trans (h.mono BN.out.size) | exact (BN.out.alloc BN.out.size _).trans (h.mono (Nat.le_trans BN.out.size (by simp)))); clear h l1 l2 d0 d1 d2 d3 d4 d5 d6 e0 e1 e2 e3 e4 e5; obtain ⟨d0, d1, d2, d3, d4, d5, d6⟩ := HK.out _ BN.out; obtain ⟨e0, e1, e2, e3, e4, e5⟩ := HJ.out _ BN.out; have l1 := Nat.lt_of_lt_of_le HZ1.out BN.out.size; have l2 := Nat.lt_of_lt_of_le HZ2.out BN.out.size)
    | (go_at_call 17; (with_reducible refine (H6.out _).mono ?_); rintro e wx ⟨rfl, h⟩; replace BN : Hid (Below W.heap.size W wx) := Lib.hid (by first | exact BN.out.trans (h.mono BN.out.size) | exact (BN.out.alloc BN.out.size _).trans (h.mono (Nat.le_trans BN.out.size (by simp)))); clear h l1 l2 d0 d1 d2 d3 d4 d5 d6 e0 e1 e2 e3 e4 e5; obtain ⟨d0, d1, d2, d3, d4, d5, d6⟩ := HK.out _ BN.out; obtain ⟨e0, e1, e2, e3, e4, e5⟩ := HJ.out _ BN.out; have l1 := Nat.lt_of_lt_of_le HZ1.out BN.out.size; have l2 := Nat.lt_of_lt_of_le HZ2.out BN.out.size)
    | (go_at_call 19; (with_reducible refine (H8.out _).mono ?_); rintro e wx ⟨rfl, h⟩; replace BN : Hid (Below W.heap.size W wx) := Lib.hid (by first | exact BN.out.trans (h.mono BN.out.size) | exact (BN.out.alloc BN.out.size _).trans (h.mono (Nat.le_trans BN.out.size (by simp)))); clear h l1 l2 d0 d1 d2 d3 d4 d5 d6 e0 e1 e2 e3 e4 e5; obtain ⟨d0, d1, d2, d3, d4, d5, d6⟩ := HK.out _ BN.out; obtain ⟨e0, e1, e2, e3, e4, e5⟩ := HJ.out _ BN.out; have l1 := Nat.lt_of_lt_of_le HZ1.out BN.out.size; have l2 := Nat.lt_of_lt_of_le HZ2.out BN.out.size)
    | (go_at_call 21; (with_reducible refine (H9.out _).mono ?_); rintro e wx ⟨rfl, h⟩; replace BN : Hid (Below W.heap.size W wx) := Lib.hid (by first | exact BN.out.trans (h.mono BN.out.size) | exact (BN.out.alloc BN.out.size _).trans (h.mono (Nat.le_trans BN.out.size (by simp)))); clear h l1 l2 d0 d1 d2 d3 d4 d5 d6 e0 e1 e2 e3 e4 e5; obtain ⟨d0, d1, d2, d3, d4, d5, d6⟩ := HK.out _ BN.out; obtain ⟨e0, e1, e2, e3, e4, e5⟩ := HJ.out _ BN.out; have l1 := Nat.lt_of_lt_of_le HZ1.out BN.out.size; have l2 := Nat.lt_of_lt_of_le HZ2.out BN.out.size)
    | (go_at_call 10; (with_reducible refine (HAW.out _).mono ?_); rintro e wx ⟨rfl, h⟩; replace BN : Hid (Below W.heap.size W wx) := Lib.hid (by first | exact BN.out.trans (h.mono BN.out.size) | exact (BN.out.alloc BN.out.size _).trans (h.mono (Nat.le_trans BN.out.size (by simp)))); clear h l1 l2 d0 d1 d2 d3 d4 d5 d6 e0 e1 e2 e3 e4 e5; obtain ⟨d0, d1, d2, d3, d4, d5, d6⟩ := HK.out _ BN.out; obtain ⟨e0, e1, e2, e3, e4, e5⟩ := HJ.out _ BN.out; have l1 := Nat.lt_of_lt_of_le HZ1.out BN.out.size; have l2 := Nat.lt_of_lt_of_le HZ2.out BN.out.size))
  go_ret
  exact ⟨rfl, HB0.out.trans ((by first | exact BN.out | exact BN.out.alloc BN.out.size _ : Below W.heap.size W _).mono HB0.out.size)⟩
set_option maxHeartbeats 1000000 in
theorem back_FTFF (X Y L : ByteArray) (o : Int) (s t : ByteArray) (a b c n : Int) (o1 : Int) (s1 : ByteArray) (a1 b1 c1 n1 : Int) (o2 : Int) (s2 t2 : ByteArray) (a2 b2 c2 n2 : Int) (o3 : Int) (s3 : ByteArray) (a3 b3 c3 n3 : Int) (w : World)
    (h1 : ∀ W, Calls Try.prog 11 #[.agg #[.int .i64 o, .string s, .string t, .int .i64 a, .int .i64 b, .int .i64 c, .int .i64 n]] W (RetBelow (.tuple #[.string ⟨#[]⟩, .int .i64 4]) W))
    (h4 : ∀ W, Calls Try.prog 21 #[.agg #[.int .i64 o1, .string s1, .int .i64 a1, .int .i64 b1, .int .i64 c1, .int .i64 n1]] W (RetBelow (.tuple #[.string Y, .int .i64 0]) W))
    (h5 : ∀ W, Calls Try.prog 19 #[.string Y] W (RetBelow (.tuple #[.agg #[.int .i64 o1, .string s1, .int .i64 a1, .int .i64 b1, .int .i64 c1, .int .i64 n1], .int .i64 0]) W))
    (h6 : ∀ W, Calls Try.prog 17 #[.string L] W (RetBelow (.tuple #[.agg #[.int .i64 0, .string ⟨#[]⟩, .string ⟨#[]⟩, .int .i64 0, .int .i64 0, .int .i64 0, .int .i64 0], .int .i64 4]) W))
    (h8 : ∀ W, Calls Try.prog 19 #[.string L] W (RetBelow (.tuple #[.agg #[.int .i64 0, .string ⟨#[]⟩, .int .i64 0, .int .i64 0, .int .i64 0, .int .i64 0], .int .i64 4]) W)) :
    Calls Try.prog 6 #[.agg #[.int .i64 o, .string s, .string t, .int .i64 a, .int .i64 b, .int .i64 c, .int .i64 n], .agg #[.int .i64 o1, .string s1, .int .i64 a1, .int .i64 b1, .int .i64 c1, .int .i64 n1], .string L] w (RetBelow (.bool true) w) := by
  have H1 := Lib.hid h1
  have H4 := Lib.hid h4
  have H5 := Lib.hid h5
  have H6 := Lib.hid h6
  have H8 := Lib.hid h8
  have HAW := Lib.hid awakeC_any
  clear h1 h4 h5 h6 h8
  have q1 : ∀ V : World, (binOp .neq 25 (.agg #[.int .i64 o, .string s, .string t, .int .i64 a, .int .i64 b, .int .i64 c, .int .i64 n]) (.agg #[.int .i64 o, .string s, .string t, .int .i64 a, .int .i64 b, .int .i64 c, .int .i64 n])).run Try.prog V = .ok (.bool false) V := fun V => by rw [neq25v, eqC_self]; rfl
  have q2 : ∀ V : World, (binOp .neq 34 (.agg #[.int .i64 o1, .string s1, .int .i64 a1, .int .i64 b1, .int .i64 c1, .int .i64 n1]) (.agg #[.int .i64 o1, .string s1, .int .i64 a1, .int .i64 b1, .int .i64 c1, .int .i64 n1])).run Try.prog V = .ok (.bool false) V := fun V => by rw [neq34v, eqR_self]; rfl
  have q3 : ∀ V : World, (binOp .eql 34 (.agg #[.int .i64 0, .string ⟨#[]⟩, .int .i64 0, .int .i64 0, .int .i64 0, .int .i64 0]) (.agg #[.int .i64 0, .string ⟨#[]⟩, .int .i64 0, .int .i64 0, .int .i64 0, .int .i64 0])).run Try.prog V = .ok (.bool true) V := fun V => by rw [eq34v, eqR_self]
  have q4 : ∀ V : World, (Instr.build 34 #[]).run Try.prog V = .ok (.agg #[.int .i64 0, .string ⟨#[]⟩, .int .i64 0, .int .i64 0, .int .i64 0, .int .i64 0]) V := fun V => run_build V 34 _ _ (by kernel_rfl)
  obtain ⟨W, hW⟩ : ∃ W, (w.alloc (.cells #[.int .i64 o, .string s, .string t, .int .i64 a, .int .i64 b, .int .i64 c, .int .i64 n] 25)).alloc (.cells #[.int .i64 o1, .string s1, .int .i64 a1, .int .i64 b1, .int .i64 c1, .int .i64 n1] 34) = W := ⟨_, rfl⟩
  have g1 : W.heap[w.heap.size]? = some (cRowV o s t a b c n) := by rw [← hW]; exact keepAlloc _ (heap_alloc_new w _)
  have g2 : W.heap[w.heap.size + 1]? = some (rRowV o1 s1 a1 b1 c1 n1) := by rw [← hW, show w.heap.size + 1 = (w.alloc (.cells #[.int .i64 o, .string s, .string t, .int .i64 a, .int .i64 b, .int .i64 c, .int .i64 n] 25)).heap.size from by simp]; exact heap_alloc_new _ _
  have hz : W.heap.size = w.heap.size + 2 := by rw [← hW]; simp
  have HB0 : Hid (Below w.heap.size w W) := Lib.hid (by rw [← hW]; exact ((Below.refl _ _).alloc (Nat.le_refl _) _).alloc (by simp) _)
  have HK := Lib.hid (fun V (h : Below W.heap.size W V) => cat_of g1 (by omega) h)
  have HJ := Lib.hid (fun V (h : Below W.heap.size W V) => rat_of g2 (by omega) h)
  have HW := Lib.hid hW
  have l1 : w.heap.size < W.heap.size := by omega
  have l2 : w.heap.size + 1 < W.heap.size := by omega
  have HZ1 := Lib.hid l1
  have HZ2 := Lib.hid l2
  clear hW g1 g2 hz
  have BN := Lib.hid (Below.refl W.heap.size W)
  obtain ⟨d0, d1, d2, d3, d4, d5, d6⟩ := HK.out _ BN.out
  obtain ⟨e0, e1, e2, e3, e4, e5⟩ := HJ.out _ BN.out
  go_enter Try.func6, Try.ntmps6
  go_wp2_with fail
  rw [HW.out]
  go_wp2_with (first
    | (go_at_call 11; (with_reducible refine (H1.out _).mono ?_); rintro e wx ⟨rfl, h⟩; replace BN : Hid (Below W.heap.size W wx) := Lib.hid (by first | exact BN.out.trans (h.mono BN.out.size) | exact (BN.out.alloc BN.out.size _).trans (h.mono (Nat.le_trans BN.out.size (by simp)))); clear h l1 l2 d0 d1 d2 d3 d4 d5 d6 e0 e1 e2 e3 e4 e5; obtain ⟨d0, d1, d2, d3, d4, d5, d6⟩ := HK.out _ BN.out; obtain ⟨e0, e1, e2, e3, e4, e5⟩ := HJ.out _ BN.out; have l1 := Nat.lt_of_lt_of_le HZ1.out BN.out.size; have l2 := Nat.lt_of_lt_of_le HZ2.out BN.out.size)
    | (go_at_call 21; (with_reducible refine (H4.out _).mono ?_); rintro e wx ⟨rfl, h⟩; replace BN : Hid (Below W.heap.size W wx) := Lib.hid (by first | exact BN.out.trans (h.mono BN.out.size) | exact (BN.out.alloc BN.out.size _).trans (h.mono (Nat.le_trans BN.out.size (by simp)))); clear h l1 l2 d0 d1 d2 d3 d4 d5 d6 e0 e1 e2 e3 e4 e5; obtain ⟨d0, d1, d2, d3, d4, d5, d6⟩ := HK.out _ BN.out; obtain ⟨e0, e1, e2, e3, e4, e5⟩ := HJ.out _ BN.out; have l1 := Nat.lt_of_lt_of_le HZ1.out BN.out.size; have l2 := Nat.lt_of_lt_of_le HZ2.out BN.out.size)
    | (go_at_call 19; (with_reducible refine (H5.out _).mono ?_); rintro e wx ⟨rfl, h⟩; replace BN : Hid (Below W.heap.size W wx) := Lib.hid (by first | exact BN.out.trans (h.mono BN.out.size) | exact (BN.out.alloc BN.out.size _).trans (h.mono (Nat.le_trans BN.out.size (by simp)))); clear h l1 l2 d0 d1 d2 d3 d4 d5 d6 e0 e1 e2 e3 e4 e5; obtain ⟨d0, d1, d2, d3, d4, d5, d6⟩ := HK.out _ BN.out; obtain ⟨e0, e1, e2, e3, e4, e5⟩ := HJ.out _ BN.out; have l1 := Nat.lt_of_lt_of_le HZ1.out BN.out.size; have l2 := Nat.lt_of_lt_of_le HZ2.out BN.out.size)
    | (go_at_call 17; (with_reducible refine (H6.out _).mono ?_); rintro e wx ⟨rfl, h⟩; replace BN : Hid (Below W.heap.size W wx) := Lib.hid (by first | exact BN.out.trans (h.mono BN.out.size) | exact (BN.out.alloc BN.out.size _).trans (h.mono (Nat.le_trans BN.out.size (by simp)))); clear h l1 l2 d0 d1 d2 d3 d4 d5 d6 e0 e1 e2 e3 e4 e5; obtain ⟨d0, d1, d2, d3, d4, d5, d6⟩ := HK.out _ BN.out; obtain ⟨e0, e1, e2, e3, e4, e5⟩ := HJ.out _ BN.out; have l1 := Nat.lt_of_lt_of_le HZ1.out BN.out.size; have l2 := Nat.lt_of_lt_of_le HZ2.out BN.out.size)
    | (go_at_call 19; (with_reducible refine (H8.out _).mono ?_); rintro e wx ⟨rfl, h⟩; replace BN : Hid (Below W.heap.size W wx) := Lib.hid (by first | exact BN.out.trans (h.mono BN.out.size) | exact (BN.out.alloc BN.out.size _).trans (h.mono (Nat.le_trans BN.out.size (by simp)))); clear h l1 l2 d0 d1 d2 d3 d4 d5 d6 e0 e1 e2 e3 e4 e5; obtain ⟨d0, d1, d2, d3, d4, d5, d6⟩ := HK.out _ BN.out; obtain ⟨e0, e1, e2, e3, e4, e5⟩ := HJ.out _ BN.out; have l1 := Nat.lt_of_lt_of_le HZ1.out BN.out.size; have l2 := Nat.lt_of_lt_of_le HZ2.out BN.out.size)
    | (go_at_call 10; (with_reducible refine (HAW.out _).mono ?_); rintro e wx ⟨rfl, h⟩; replace BN : Hid (Below W.heap.size W wx) := Lib.hid (by first | exact BN.out.trans (h.mono BN.out.size) | exact (BN.out.alloc BN.out.size _).trans (h.mono (Nat.le_trans BN.out.size (by simp)))); clear h l1 l2 d0 d1 d2 d3 d4 d5 d6 e0 e1 e2 e3 e4 e5; obtain ⟨d0, d1, d2, d3, d4, d5, d6⟩ := HK.out _ BN.out; obtain ⟨e0, e1, e2, e3, e4, e5⟩ := HJ.out _ BN.out; have l1 := Nat.lt_of_lt_of_le HZ1.out BN.out.size; have l2 := Nat.lt_of_lt_of_le HZ2.out BN.out.size))
  go_ret
  exact ⟨rfl, HB0.out.trans ((by first | exact BN.out | exact BN.out.alloc BN.out.size _ : Below W.heap.size W _).mono HB0.out.size)⟩
set_option maxHeartbeats 1000000 in
theorem back_FFTT (X Y L : ByteArray) (o : Int) (s t : ByteArray) (a b c n : Int) (o1 : Int) (s1 : ByteArray) (a1 b1 c1 n1 : Int) (o2 : Int) (s2 t2 : ByteArray) (a2 b2 c2 n2 : Int) (o3 : Int) (s3 : ByteArray) (a3 b3 c3 n3 : Int) (w : World)
    (h1 : ∀ W, Calls Try.prog 11 #[.agg #[.int .i64 o, .string s, .string t, .int .i64 a, .int .i64 b, .int .i64 c, .int .i64 n]] W (RetBelow (.tuple #[.string ⟨#[]⟩, .int .i64 4]) W))
    (h4 : ∀ W, Calls Try.prog 21 #[.agg #[.int .i64 o1, .string s1, .int .i64 a1, .int .i64 b1, .int .i64 c1, .int .i64 n1]] W (RetBelow (.tuple #[.string ⟨#[]⟩, .int .i64 4]) W))
    (h6 : ∀ W, Calls Try.prog 17 #[.string L] W (RetBelow (.tuple #[.agg #[.int .i64 o2, .string s2, .string t2, .int .i64 a2, .int .i64 b2, .int .i64 c2, .int .i64 n2], .int .i64 0]) W))
    (h7 : ∀ W, Calls Try.prog 11 #[.agg #[.int .i64 o2, .string s2, .string t2, .int .i64 a2, .int .i64 b2, .int .i64 c2, .int .i64 n2]] W (RetBelow (.tuple #[.string L, .int .i64 0]) W))
    (h8 : ∀ W, Calls Try.prog 19 #[.string L] W (RetBelow (.tuple #[.agg #[.int .i64 o3, .string s3, .int .i64 a3, .int .i64 b3, .int .i64 c3, .int .i64 n3], .int .i64 0]) W))
    (h9 : ∀ W, Calls Try.prog 21 #[.agg #[.int .i64 o3, .string s3, .int .i64 a3, .int .i64 b3, .int .i64 c3, .int .i64 n3]] W (RetBelow (.tuple #[.string L, .int .i64 0]) W)) :
    Calls Try.prog 6 #[.agg #[.int .i64 o, .string s, .string t, .int .i64 a, .int .i64 b, .int .i64 c, .int .i64 n], .agg #[.int .i64 o1, .string s1, .int .i64 a1, .int .i64 b1, .int .i64 c1, .int .i64 n1], .string L] w (RetBelow (.bool true) w) := by
  have H1 := Lib.hid h1
  have H4 := Lib.hid h4
  have H6 := Lib.hid h6
  have H7 := Lib.hid h7
  have H8 := Lib.hid h8
  have H9 := Lib.hid h9
  have HAW := Lib.hid awakeC_any
  clear h1 h4 h6 h7 h8 h9
  have q1 : ∀ V : World, (binOp .neq 25 (.agg #[.int .i64 o, .string s, .string t, .int .i64 a, .int .i64 b, .int .i64 c, .int .i64 n]) (.agg #[.int .i64 o, .string s, .string t, .int .i64 a, .int .i64 b, .int .i64 c, .int .i64 n])).run Try.prog V = .ok (.bool false) V := fun V => by rw [neq25v, eqC_self]; rfl
  have q2 : ∀ V : World, (binOp .neq 34 (.agg #[.int .i64 o1, .string s1, .int .i64 a1, .int .i64 b1, .int .i64 c1, .int .i64 n1]) (.agg #[.int .i64 o1, .string s1, .int .i64 a1, .int .i64 b1, .int .i64 c1, .int .i64 n1])).run Try.prog V = .ok (.bool false) V := fun V => by rw [neq34v, eqR_self]; rfl
  have q3 : ∀ V : World, (binOp .eql 34 (.agg #[.int .i64 0, .string ⟨#[]⟩, .int .i64 0, .int .i64 0, .int .i64 0, .int .i64 0]) (.agg #[.int .i64 0, .string ⟨#[]⟩, .int .i64 0, .int .i64 0, .int .i64 0, .int .i64 0])).run Try.prog V = .ok (.bool true) V := fun V => by rw [eq34v, eqR_self]
  have q4 : ∀ V : World, (Instr.build 34 #[]).run Try.prog V = .ok (.agg #[.int .i64 0, .string ⟨#[]⟩, .int .i64 0, .int .i64 0, .int .i64 0, .int .i64 0]) V := fun V => run_build V 34 _ _ (by kernel_rfl)
  obtain ⟨W, hW⟩ : ∃ W, (w.alloc (.cells #[.int .i64 o, .string s, .string t, .int .i64 a, .int .i64 b, .int .i64 c, .int .i64 n] 25)).alloc (.cells #[.int .i64 o1, .string s1, .int .i64 a1, .int .i64 b1, .int .i64 c1, .int .i64 n1] 34) = W := ⟨_, rfl⟩
  have g1 : W.heap[w.heap.size]? = some (cRowV o s t a b c n) := by rw [← hW]; exact keepAlloc _ (heap_alloc_new w _)
  have g2 : W.heap[w.heap.size + 1]? = some (rRowV o1 s1 a1 b1 c1 n1) := by rw [← hW, show w.heap.size + 1 = (w.alloc (.cells #[.int .i64 o, .string s, .string t, .int .i64 a, .int .i64 b, .int .i64 c, .int .i64 n] 25)).heap.size from by simp]; exact heap_alloc_new _ _
  have hz : W.heap.size = w.heap.size + 2 := by rw [← hW]; simp
  have HB0 : Hid (Below w.heap.size w W) := Lib.hid (by rw [← hW]; exact ((Below.refl _ _).alloc (Nat.le_refl _) _).alloc (by simp) _)
  have HK := Lib.hid (fun V (h : Below W.heap.size W V) => cat_of g1 (by omega) h)
  have HJ := Lib.hid (fun V (h : Below W.heap.size W V) => rat_of g2 (by omega) h)
  have HW := Lib.hid hW
  have l1 : w.heap.size < W.heap.size := by omega
  have l2 : w.heap.size + 1 < W.heap.size := by omega
  have HZ1 := Lib.hid l1
  have HZ2 := Lib.hid l2
  clear hW g1 g2 hz
  have BN := Lib.hid (Below.refl W.heap.size W)
  obtain ⟨d0, d1, d2, d3, d4, d5, d6⟩ := HK.out _ BN.out
  obtain ⟨e0, e1, e2, e3, e4, e5⟩ := HJ.out _ BN.out
  go_enter Try.func6, Try.ntmps6
  go_wp2_with fail
  rw [HW.out]
  go_wp2_with (first
    | (go_at_call 11; (with_reducible refine (H1.out _).mono ?_); rintro e wx ⟨rfl, h⟩; replace BN : Hid (Below W.heap.size W wx) := Lib.hid (by first | exact BN.out.trans (h.mono BN.out.size) | exact (BN.out.alloc BN.out.size _).trans (h.mono (Nat.le_trans BN.out.size (by simp)))); clear h l1 l2 d0 d1 d2 d3 d4 d5 d6 e0 e1 e2 e3 e4 e5; obtain ⟨d0, d1, d2, d3, d4, d5, d6⟩ := HK.out _ BN.out; obtain ⟨e0, e1, e2, e3, e4, e5⟩ := HJ.out _ BN.out; have l1 := Nat.lt_of_lt_of_le HZ1.out BN.out.size; have l2 := Nat.lt_of_lt_of_le HZ2.out BN.out.size)
    | (go_at_call 21; (with_reducible refine (H4.out _).mono ?_); rintro e wx ⟨rfl, h⟩; replace BN : Hid (Below W.heap.size W wx) := Lib.hid (by first | exact BN.out.trans (h.mono BN.out.size) | exact (BN.out.alloc BN.out.size _).trans (h.mono (Nat.le_trans BN.out.size (by simp)))); clear h l1 l2 d0 d1 d2 d3 d4 d5 d6 e0 e1 e2 e3 e4 e5; obtain ⟨d0, d1, d2, d3, d4, d5, d6⟩ := HK.out _ BN.out; obtain ⟨e0, e1, e2, e3, e4, e5⟩ := HJ.out _ BN.out; have l1 := Nat.lt_of_lt_of_le HZ1.out BN.out.size; have l2 := Nat.lt_of_lt_of_le HZ2.out BN.out.size)
    | (go_at_call 17; (with_reducible refine (H6.out _).mono ?_); rintro e wx ⟨rfl, h⟩; replace BN : Hid (Below W.heap.size W wx) := Lib.hid (by first | exact BN.out.trans (h.mono BN.out.size) | exact (BN.out.alloc BN.out.size _).trans (h.mono (Nat.le_trans BN.out.size (by simp)))); clear h l1 l2 d0 d1 d2 d3 d4 d5 d6 e0 e1 e2 e3 e4 e5; obtain ⟨d0, d1, d2, d3, d4, d5, d6⟩ := HK.out _ BN.out; obtain ⟨e0, e1, e2, e3, e4, e5⟩ := HJ.out _ BN.out; have l1 := Nat.lt_of_lt_of_le HZ1.out BN.out.size; have l2 := Nat.lt_of_lt_of_le HZ2.out BN.out.size)
    | (go_at_call 11; (with_reducible refine (H7.out _).mono ?_); rintro e wx ⟨rfl, h⟩; replace BN : Hid (Below W.heap.size W wx) := Lib.hid (by first | exact BN.out.trans (h.mono BN.out.size) | exact (BN.out.alloc BN.out.size _).trans (h.mono (Nat.le_trans BN.out.size (by simp)))); clear h l1 l2 d0 d1 d2 d3 d4 d5 d6 e0 e1 e2 e3 e4 e5; obtain ⟨d0, d1, d2, d3, d4, d5, d6⟩ := HK.out _ BN.out; obtain ⟨e0, e1, e2, e3, e4, e5⟩ := HJ.out _ BN.out; have l1 := Nat.lt_of_lt_of_le HZ1.out BN.out.size; have l2 := Nat.lt_of_lt_of_le HZ2.out BN.out.size)
    | (go_at_call 19; (with_reducible refine (H8.out _).mono ?_); rintro e wx ⟨rfl, h⟩; replace BN : Hid (Below W.heap.size W wx) := Lib.hid (by first | exact BN.out.trans (h.mono BN.out.size) | exact (BN.out.alloc BN.out.size _).trans (h.mono (Nat.le_trans BN.out.size (by simp)))); clear h l1 l2 d0 d1 d2 d3 d4 d5 d6 e0 e1 e2 e3 e4 e5; obtain ⟨d0, d1, d2, d3, d4, d5, d6⟩ := HK.out _ BN.out; obtain ⟨e0, e1, e2, e3, e4, e5⟩ := HJ.out _ BN.out; have l1 := Nat.lt_of_lt_of_le HZ1.out BN.out.size; have l2 := Nat.lt_of_lt_of_le HZ2.out BN.out.size)
    | (go_at_call 21; (with_reducible refine (H9.out _).mono ?_); rintro e wx ⟨rfl, h⟩; replace BN : Hid (Below W.heap.size W wx) := Lib.hid (by first | exact BN.out.trans (h.mono BN.out.size) | exact (BN.out.alloc BN.out.size _).trans (h.mono (Nat.le_trans BN.out.size (by simp)))); clear h l1 l2 d0 d1 d2 d3 d4 d5 d6 e0 e1 e2 e3 e4 e5; obtain ⟨d0, d1, d2, d3, d4, d5, d6⟩ := HK.out _ BN.out; obtain ⟨e0, e1, e2, e3, e4, e5⟩ := HJ.out _ BN.out; have l1 := Nat.lt_of_lt_of_le HZ1.out BN.out.size; have l2 := Nat.lt_of_lt_of_le HZ2.out BN.out.size)
    | (go_at_call 10; (with_reducible refine (HAW.out _).mono ?_); rintro e wx ⟨rfl, h⟩; replace BN : Hid (Below W.heap.size W wx) := Lib.hid (by first | exact BN.out.trans (h.mono BN.out.size) | exact (BN.out.alloc BN.out.size _).trans (h.mono (Nat.le_trans BN.out.size (by simp)))); clear h l1 l2 d0 d1 d2 d3 d4 d5 d6 e0 e1 e2 e3 e4 e5; obtain ⟨d0, d1, d2, d3, d4, d5, d6⟩ := HK.out _ BN.out; obtain ⟨e0, e1, e2, e3, e4, e5⟩ := HJ.out _ BN.out; have l1 := Nat.lt_of_lt_of_le HZ1.out BN.out.size; have l2 := Nat.lt_of_lt_of_le HZ2.out BN.out.size))
  go_ret
  exact ⟨rfl, HB0.out.trans ((by first | exact BN.out | exact BN.out.alloc BN.out.size _ : Below W.heap.size W _).mono HB0.out.size)⟩
set_option maxHeartbeats 1000000 in
theorem back_FFTF (X Y L : ByteArray) (o : Int) (s t : ByteArray) (a b c n : Int) (o1 : Int) (s1 : ByteArray) (a1 b1 c1 n1 : Int) (o2 : Int) (s2 t2 : ByteArray) (a2 b2 c2 n2 : Int) (o3 : Int) (s3 : ByteArray) (a3 b3 c3 n3 : Int) (w : World)
    (h1 : ∀ W, Calls Try.prog 11 #[.agg #[.int .i64 o, .string s, .string t, .int .i64 a, .int .i64 b, .int .i64 c, .int .i64 n]] W (RetBelow (.tuple #[.string ⟨#[]⟩, .int .i64 4]) W))
    (h4 : ∀ W, Calls Try.prog 21 #[.agg #[.int .i64 o1, .string s1, .int .i64 a1, .int .i64 b1, .int .i64 c1, .int .i64 n1]] W (RetBelow (.tuple #[.string ⟨#[]⟩, .int .i64 4]) W))
    (h6 : ∀ W, Calls Try.prog 17 #[.string L] W (RetBelow (.tuple #[.agg #[.int .i64 o2, .string s2, .string t2, .int .i64 a2, .int .i64 b2, .int .i64 c2, .int .i64 n2], .int .i64 0]) W))
    (h7 : ∀ W, Calls Try.prog 11 #[.agg #[.int .i64 o2, .string s2, .string t2, .int .i64 a2, .int .i64 b2, .int .i64 c2, .int .i64 n2]] W (RetBelow (.tuple #[.string L, .int .i64 0]) W))
    (h8 : ∀ W, Calls Try.prog 19 #[.string L] W (RetBelow (.tuple #[.agg #[.int .i64 0, .string ⟨#[]⟩, .int .i64 0, .int .i64 0, .int .i64 0, .int .i64 0], .int .i64 4]) W)) :
    Calls Try.prog 6 #[.agg #[.int .i64 o, .string s, .string t, .int .i64 a, .int .i64 b, .int .i64 c, .int .i64 n], .agg #[.int .i64 o1, .string s1, .int .i64 a1, .int .i64 b1, .int .i64 c1, .int .i64 n1], .string L] w (RetBelow (.bool true) w) := by
  have H1 := Lib.hid h1
  have H4 := Lib.hid h4
  have H6 := Lib.hid h6
  have H7 := Lib.hid h7
  have H8 := Lib.hid h8
  have HAW := Lib.hid awakeC_any
  clear h1 h4 h6 h7 h8
  have q1 : ∀ V : World, (binOp .neq 25 (.agg #[.int .i64 o, .string s, .string t, .int .i64 a, .int .i64 b, .int .i64 c, .int .i64 n]) (.agg #[.int .i64 o, .string s, .string t, .int .i64 a, .int .i64 b, .int .i64 c, .int .i64 n])).run Try.prog V = .ok (.bool false) V := fun V => by rw [neq25v, eqC_self]; rfl
  have q2 : ∀ V : World, (binOp .neq 34 (.agg #[.int .i64 o1, .string s1, .int .i64 a1, .int .i64 b1, .int .i64 c1, .int .i64 n1]) (.agg #[.int .i64 o1, .string s1, .int .i64 a1, .int .i64 b1, .int .i64 c1, .int .i64 n1])).run Try.prog V = .ok (.bool false) V := fun V => by rw [neq34v, eqR_self]; rfl
  have q3 : ∀ V : World, (binOp .eql 34 (.agg #[.int .i64 0, .string ⟨#[]⟩, .int .i64 0, .int .i64 0, .int .i64 0, .int .i64 0]) (.agg #[.int .i64 0, .string ⟨#[]⟩, .int .i64 0, .int .i64 0, .int .i64 0, .int .i64 0])).run Try.prog V = .ok (.bool true) V := fun V => by rw [eq34v, eqR_self]
  have q4 : ∀ V : World, (Instr.build 34 #[]).run Try.prog V = .ok (.agg #[.int .i64 0, .string ⟨#[]⟩, .int .i64 0, .int .i64 0, .int .i64 0, .int .i64 0]) V := fun V => run_build V 34 _ _ (by kernel_rfl)
  obtain ⟨W, hW⟩ : ∃ W, (w.alloc (.cells #[.int .i64 o, .string s, .string t, .int .i64 a, .int .i64 b, .int .i64 c, .int .i64 n] 25)).alloc (.cells #[.int .i64 o1, .string s1, .int .i64 a1, .int .i64 b1, .int .i64 c1, .int .i64 n1] 34) = W := ⟨_, rfl⟩
  have g1 : W.heap[w.heap.size]? = some (cRowV o s t a b c n) := by rw [← hW]; exact keepAlloc _ (heap_alloc_new w _)
  have g2 : W.heap[w.heap.size + 1]? = some (rRowV o1 s1 a1 b1 c1 n1) := by rw [← hW, show w.heap.size + 1 = (w.alloc (.cells #[.int .i64 o, .string s, .string t, .int .i64 a, .int .i64 b, .int .i64 c, .int .i64 n] 25)).heap.size from by simp]; exact heap_alloc_new _ _
  have hz : W.heap.size = w.heap.size + 2 := by rw [← hW]; simp
  have HB0 : Hid (Below w.heap.size w W) := Lib.hid (by rw [← hW]; exact ((Below.refl _ _).alloc (Nat.le_refl _) _).alloc (by simp) _)
  have HK := Lib.hid (fun V (h : Below W.heap.size W V) => cat_of g1 (by omega) h)
  have HJ := Lib.hid (fun V (h : Below W.heap.size W V) => rat_of g2 (by omega) h)
  have HW := Lib.hid hW
  have l1 : w.heap.size < W.heap.size := by omega
  have l2 : w.heap.size + 1 < W.heap.size := by omega
  have HZ1 := Lib.hid l1
  have HZ2 := Lib.hid l2
  clear hW g1 g2 hz
  have BN := Lib.hid (Below.refl W.heap.size W)
  obtain ⟨d0, d1, d2, d3, d4, d5, d6⟩ := HK.out _ BN.out
  obtain ⟨e0, e1, e2, e3, e4, e5⟩ := HJ.out _ BN.out
  go_enter Try.func6, Try.ntmps6
  go_wp2_with fail
  rw [HW.out]
  go_wp2_with (first
    | (go_at_call 11; (with_reducible refine (H1.out _).mono ?_); rintro e wx ⟨rfl, h⟩; replace BN : Hid (Below W.heap.size W wx) := Lib.hid (by first | exact BN.out.trans (h.mono BN.out.size) | exact (BN.out.alloc BN.out.size _).trans (h.mono (Nat.le_trans BN.out.size (by simp)))); clear h l1 l2 d0 d1 d2 d3 d4 d5 d6 e0 e1 e2 e3 e4 e5; obtain ⟨d0, d1, d2, d3, d4, d5, d6⟩ := HK.out _ BN.out; obtain ⟨e0, e1, e2, e3, e4, e5⟩ := HJ.out _ BN.out; have l1 := Nat.lt_of_lt_of_le HZ1.out BN.out.size; have l2 := Nat.lt_of_lt_of_le HZ2.out BN.out.size)
    | (go_at_call 21; (with_reducible refine (H4.out _).mono ?_); rintro e wx ⟨rfl, h⟩; replace BN : Hid (Below W.heap.size W wx) := Lib.hid (by first | exact BN.out.trans (h.mono BN.out.size) | exact (BN.out.alloc BN.out.size _).trans (h.mono (Nat.le_trans BN.out.size (by simp)))); clear h l1 l2 d0 d1 d2 d3 d4 d5 d6 e0 e1 e2 e3 e4 e5; obtain ⟨d0, d1, d2, d3, d4, d5, d6⟩ := HK.out _ BN.out; obtain ⟨e0, e1, e2, e3, e4, e5⟩ := HJ.out _ BN.out; have l1 := Nat.lt_of_lt_of_le HZ1.out BN.out.size; have l2 := Nat.lt_of_lt_of_le HZ2.out BN.out.size)
    | (go_at_call 17; (with_reducible refine (H6.out _).mono ?_); rintro e wx ⟨rfl, h⟩; replace BN : Hid (Below W.heap.size W wx) := Lib.hid (by first | exact BN.out.trans (h.mono BN.out.size) | exact (BN.out.alloc BN.out.size _).trans (h.mono (Nat.le_trans BN.out.size (by simp)))); clear h l1 l2 d0 d1 d2 d3 d4 d5 d6 e0 e1 e2 e3 e4 e5; obtain ⟨d0, d1, d2, d3, d4, d5, d6⟩ := HK.out _ BN.out; obtain ⟨e0, e1, e2, e3, e4, e5⟩ := HJ.out _ BN.out; have l1 := Nat.lt_of_lt_of_le HZ1.out BN.out.size; have l2 := Nat.lt_of_lt_of_le HZ2.out BN.out.size)
    | (go_at_call 11; (with_reducible refine (H7.out _).mono ?_); rintro e wx ⟨rfl, h⟩; replace BN : Hid (Below W.heap.size W wx) := Lib.hid (by first | exact BN.out.trans (h.mono BN.out.size) | exact (BN.out.alloc BN.out.size _).trans (h.mono (Nat.le_trans BN.out.size (by simp)))); clear h l1 l2 d0 d1 d2 d3 d4 d5 d6 e0 e1 e2 e3 e4 e5; obtain ⟨d0, d1, d2, d3, d4, d5, d6⟩ := HK.out _ BN.out; obtain ⟨e0, e1, e2, e3, e4, e5⟩ := HJ.out _ BN.out; have l1 := Nat.lt_of_lt_of_le HZ1.out BN.out.size; have l2 := Nat.lt_of_lt_of_le HZ2.out BN.out.size)
    | (go_at_call 19; (with_reducible refine (H8.out _).mono ?_); rintro e wx ⟨rfl, h⟩; replace BN : Hid (Below W.heap.size W wx) := Lib.hid (by first | exact BN.out.trans (h.mono BN.out.size) | exact (BN.out.alloc BN.out.size _).trans (h.mono (Nat.le_trans BN.out.size (by simp)))); clear h l1 l2 d0 d1 d2 d3 d4 d5 d6 e0 e1 e2 e3 e4 e5; obtain ⟨d0, d1, d2, d3, d4, d5, d6⟩ := HK.out _ BN.out; obtain ⟨e0, e1, e2, e3, e4, e5⟩ := HJ.out _ BN.out; have l1 := Nat.lt_of_lt_of_le HZ1.out BN.out.size; have l2 := Nat.lt_of_lt_of_le HZ2.out BN.out.size)
    | (go_at_call 10; (with_reducible refine (HAW.out _).mono ?_); rintro e wx ⟨rfl, h⟩; replace BN : Hid (Below W.heap.size W wx) := Lib.hid (by first | exact BN.out.trans (h.mono BN.out.size) | exact (BN.out.alloc BN.out.size _).trans (h.mono (Nat.le_trans BN.out.size (by simp)))); clear h l1 l2 d0 d1 d2 d3 d4 d5 d6 e0 e1 e2 e3 e4 e5; obtain ⟨d0, d1, d2, d3, d4, d5, d6⟩ := HK.out _ BN.out; obtain ⟨e0, e1, e2, e3, e4, e5⟩ := HJ.out _ BN.out; have l1 := Nat.lt_of_lt_of_le HZ1.out BN.out.size; have l2 := Nat.lt_of_lt_of_le HZ2.out BN.out.size))
  go_ret
  exact ⟨rfl, HB0.out.trans ((by first | exact BN.out | exact BN.out.alloc BN.out.size _ : Below W.heap.size W _).mono HB0.out.size)⟩
set_option maxHeartbeats 1000000 in
theorem back_FFFT (X Y L : ByteArray) (o : Int) (s t : ByteArray) (a b c n : Int) (o1 : Int) (s1 : ByteArray) (a1 b1 c1 n1 : Int) (o2 : Int) (s2 t2 : ByteArray) (a2 b2 c2 n2 : Int) (o3 : Int) (s3 : ByteArray) (a3 b3 c3 n3 : Int) (w : World)
    (h1 : ∀ W, Calls Try.prog 11 #[.agg #[.int .i64 o, .string s, .string t, .int .i64 a, .int .i64 b, .int .i64 c, .int .i64 n]] W (RetBelow (.tuple #[.string ⟨#[]⟩, .int .i64 4]) W))
    (h4 : ∀ W, Calls Try.prog 21 #[.agg #[.int .i64 o1, .string s1, .int .i64 a1, .int .i64 b1, .int .i64 c1, .int .i64 n1]] W (RetBelow (.tuple #[.string ⟨#[]⟩, .int .i64 4]) W))
    (h6 : ∀ W, Calls Try.prog 17 #[.string L] W (RetBelow (.tuple #[.agg #[.int .i64 0, .string ⟨#[]⟩, .string ⟨#[]⟩, .int .i64 0, .int .i64 0, .int .i64 0, .int .i64 0], .int .i64 4]) W))
    (h8 : ∀ W, Calls Try.prog 19 #[.string L] W (RetBelow (.tuple #[.agg #[.int .i64 o3, .string s3, .int .i64 a3, .int .i64 b3, .int .i64 c3, .int .i64 n3], .int .i64 0]) W))
    (h9 : ∀ W, Calls Try.prog 21 #[.agg #[.int .i64 o3, .string s3, .int .i64 a3, .int .i64 b3, .int .i64 c3, .int .i64 n3]] W (RetBelow (.tuple #[.string L, .int .i64 0]) W)) :
    Calls Try.prog 6 #[.agg #[.int .i64 o, .string s, .string t, .int .i64 a, .int .i64 b, .int .i64 c, .int .i64 n], .agg #[.int .i64 o1, .string s1, .int .i64 a1, .int .i64 b1, .int .i64 c1, .int .i64 n1], .string L] w (RetBelow (.bool true) w) := by
  have H1 := Lib.hid h1
  have H4 := Lib.hid h4
  have H6 := Lib.hid h6
  have H8 := Lib.hid h8
  have H9 := Lib.hid h9
  have HAW := Lib.hid awakeC_any
  clear h1 h4 h6 h8 h9
  have q1 : ∀ V : World, (binOp .neq 25 (.agg #[.int .i64 o, .string s, .string t, .int .i64 a, .int .i64 b, .int .i64 c, .int .i64 n]) (.agg #[.int .i64 o, .string s, .string t, .int .i64 a, .int .i64 b, .int .i64 c, .int .i64 n])).run Try.prog V = .ok (.bool false) V := fun V => by rw [neq25v, eqC_self]; rfl
  have q2 : ∀ V : World, (binOp .neq 34 (.agg #[.int .i64 o1, .string s1, .int .i64 a1, .int .i64 b1, .int .i64 c1, .int .i64 n1]) (.agg #[.int .i64 o1, .string s1, .int .i64 a1, .int .i64 b1, .int .i64 c1, .int .i64 n1])).run Try.prog V = .ok (.bool false) V := fun V => by rw [neq34v, eqR_self]; rfl
  have q3 : ∀ V : World, (binOp .eql 34 (.agg #[.int .i64 0, .string ⟨#[]⟩, .int .i64 0, .int .i64 0, .int .i64 0, .int .i64 0]) (.agg #[.int .i64 0, .string ⟨#[]⟩, .int .i64 0, .int .i64 0, .int .i64 0, .int .i64 0])).run Try.prog V = .ok (.bool true) V := fun V => by rw [eq34v, eqR_self]
  have q4 : ∀ V : World, (Instr.build 34 #[]).run Try.prog V = .ok (.agg #[.int .i64 0, .string ⟨#[]⟩, .int .i64 0, .int .i64 0, .int .i64 0, .int .i64 0]) V := fun V => run_build V 34 _ _ (by kernel_rfl)
  obtain ⟨W, hW⟩ : ∃ W, (w.alloc (.cells #[.int .i64 o, .string s, .string t, .int .i64 a, .int .i64 b, .int .i64 c, .int .i64 n] 25)).alloc (.cells #[.int .i64 o1, .string s1, .int .i64 a1, .int .i64 b1, .int .i64 c1, .int .i64 n1] 34) = W := ⟨_, rfl⟩
  have g1 : W.heap[w.heap.size]? = some (cRowV o s t a b c n) := by rw [← hW]; exact keepAlloc _ (heap_alloc_new w _)
  have g2 : W.heap[w.heap.size + 1]? = some (rRowV o1 s1 a1 b1 c1 n1) := by rw [← hW, show w.heap.size + 1 = (w.alloc (.cells #[.int .i64 o, .string s, .string t, .int .i64 a, .int .i64 b, .int .i64 c, .int .i64 n] 25)).heap.size from by simp]; exact heap_alloc_new _ _
  have hz : W.heap.size = w.heap.size + 2 := by rw [← hW]; simp
  have HB0 : Hid (Below w.heap.size w W) := Lib.hid (by rw [← hW]; exact ((Below.refl _ _).alloc (Nat.le_refl _) _).alloc (by simp) _)
  have HK := Lib.hid (fun V (h : Below W.heap.size W V) => cat_of g1 (by omega) h)
  have HJ := Lib.hid (fun V (h : Below W.heap.size W V) => rat_of g2 (by omega) h)
  have HW := Lib.hid hW
  have l1 : w.heap.size < W.heap.size := by omega
  have l2 : w.heap.size + 1 < W.heap.size := by omega
  have HZ1 := Lib.hid l1
  have HZ2 := Lib.hid l2
  clear hW g1 g2 hz
  have BN := Lib.hid (Below.refl W.heap.size W)
  obtain ⟨d0, d1, d2, d3, d4, d5, d6⟩ := HK.out _ BN.out
  obtain ⟨e0, e1, e2, e3, e4, e5⟩ := HJ.out _ BN.out
  go_enter Try.func6, Try.ntmps6
  go_wp2_with fail
  rw [HW.out]
  go_wp2_with (first
    | (go_at_call 11; (with_reducible refine (H1.out _).mono ?_); rintro e wx ⟨rfl, h⟩; replace BN : Hid (Below W.heap.size W wx) := Lib.hid (by first | exact BN.out.trans (h.mono BN.out.size) | exact (BN.out.alloc BN.out.size _).trans (h.mono (Nat.le_trans BN.out.size (by simp)))); clear h l1 l2 d0 d1 d2 d3 d4 d5 d6 e0 e1 e2 e3 e4 e5; obtain ⟨d0, d1, d2, d3, d4, d5, d6⟩ := HK.out _ BN.out; obtain ⟨e0, e1, e2, e3, e4, e5⟩ := HJ.out _ BN.out; have l1 := Nat.lt_of_lt_of_le HZ1.out BN.out.size; have l2 := Nat.lt_of_lt_of_le HZ2.out BN.out.size)
    | (go_at_call 21; (with_reducible refine (H4.out _).mono ?_); rintro e wx ⟨rfl, h⟩; replace BN : Hid (Below W.heap.size W wx) := Lib.hid (by first | exact BN.out.trans (h.mono BN.out.size) | exact (BN.out.alloc BN.out.size _).trans (h.mono (Nat.le_trans BN.out.size (by simp)))); clear h l1 l2 d0 d1 d2 d3 d4 d5 d6 e0 e1 e2 e3 e4 e5; obtain ⟨d0, d1, d2, d3, d4, d5, d6⟩ := HK.out _ BN.out; obtain ⟨e0, e1, e2, e3, e4, e5⟩ := HJ.out _ BN.out; have l1 := Nat.lt_of_lt_of_le HZ1.out BN.out.size; have l2 := Nat.lt_of_lt_of_le HZ2.out BN.out.size)
    | (go_at_call 17; (with_reducible refine (H6.out _).mono ?_); rintro e wx ⟨rfl, h⟩; replace BN : Hid (Below W.heap.size W wx) := Lib.hid (by first | exact BN.out.trans (h.mono BN.out.size) | exact (BN.out.alloc BN.out.size _).trans (h.mono (Nat.le_trans BN.out.size (by simp)))); clear h l1 l2 d0 d1 d2 d3 d4 d5 d6 e0 e1 e2 e3 e4 e5; obtain ⟨d0, d1, d2, d3, d4, d5, d6⟩ := HK.out _ BN.out; obtain ⟨e0, e1, e2, e3, e4, e5⟩ := HJ.out _ BN.out; have l1 := Nat.lt_of_lt_of_le HZ1.out BN.out.size; have l2 := Nat.lt_of_lt_of_le HZ2.out BN.out.size)
    | (go_at_call 19; (with_reducible refine (H8.out _).mono ?_); rintro e wx ⟨rfl, h⟩; replace BN : Hid (Below W.heap.size W wx) := Lib.hid (by first | exact BN.out.trans (h.mono BN.out.size) | exact (BN.out.alloc BN.out.size _).trans (h.mono (Nat.le_trans BN.out.size (by simp)))); clear h l1 l2 d0 d1 d2 d3 d4 d5 d6 e0 e1 e2 e3 e4 e5; obtain ⟨d0, d1, d2, d3, d4, d5, d6⟩ := HK.out _ BN.out; obtain ⟨e0, e1, e2, e3, e4, e5⟩ := HJ.out _ BN.out; have l1 := Nat.lt_of_lt_of_le HZ1.out BN.out.size; have l2 := Nat.lt_of_lt_of_le HZ2.out BN.out.size)
    | (go_at_call 21; (with_reducible refine (H9.out _).mono ?_); rintro e wx ⟨rfl, h⟩; replace BN : Hid (Below W.heap.size W wx) := Lib.hid (by first | exact BN.out.trans (h.mono BN.out.size) | exact (BN.out.alloc BN.out.size _).trans (h.mono (Nat.le_trans BN.out.size (by simp)))); clear h l1 l2 d0 d1 d2 d3 d4 d5 d6 e0 e1 e2 e3 e4 e5; obtain ⟨d0, d1, d2, d3, d4, d5, d6⟩ := HK.out _ BN.out; obtain ⟨e0, e1, e2, e3, e4, e5⟩ := HJ.out _ BN.out; have l1 := Nat.lt_of_lt_of_le HZ1.out BN.out.size; have l2 := Nat.lt_of_lt_of_le HZ2.out BN.out.size)
    | (go_at_call 10; (with_reducible refine (HAW.out _).mono ?_); rintro e wx ⟨rfl, h⟩; replace BN : Hid (Below W.heap.size W wx) := Lib.hid (by first | exact BN.out.trans (h.mono BN.out.size) | exact (BN.out.alloc BN.out.size _).trans (h.mono (Nat.le_trans BN.out.size (by simp)))); clear h l1 l2 d0 d1 d2 d3 d4 d5 d6 e0 e1 e2 e3 e4 e5; obtain ⟨d0, d1, d2, d3, d4, d5, d6⟩ := HK.out _ BN.out; obtain ⟨e0, e1, e2, e3, e4, e5⟩ := HJ.out _ BN.out; have l1 := Nat.lt_of_lt_of_le HZ1.out BN.out.size; have l2 := Nat.lt_of_lt_of_le HZ2.out BN.out.size))
  go_ret
  exact ⟨rfl, HB0.out.trans ((by first | exact BN.out | exact BN.out.alloc BN.out.size _ : Below W.heap.size W _).mono HB0.out.size)⟩
set_option maxHeartbeats 1000000 in
theorem back_FFFF (X Y L : ByteArray) (o : Int) (s t : ByteArray) (a b c n : Int) (o1 : Int) (s1 : ByteArray) (a1 b1 c1 n1 : Int) (o2 : Int) (s2 t2 : ByteArray) (a2 b2 c2 n2 : Int) (o3 : Int) (s3 : ByteArray) (a3 b3 c3 n3 : Int) (w : World)
    (h1 : ∀ W, Calls Try.prog 11 #[.agg #[.int .i64 o, .string s, .string t, .int .i64 a, .int .i64 b, .int .i64 c, .int .i64 n]] W (RetBelow (.tuple #[.string ⟨#[]⟩, .int .i64 4]) W))
    (h4 : ∀ W, Calls Try.prog 21 #[.agg #[.int .i64 o1, .string s1, .int .i64 a1, .int .i64 b1, .int .i64 c1, .int .i64 n1]] W (RetBelow (.tuple #[.string ⟨#[]⟩, .int .i64 4]) W))
    (h6 : ∀ W, Calls Try.prog 17 #[.string L] W (RetBelow (.tuple #[.agg #[.int .i64 0, .string ⟨#[]⟩, .string ⟨#[]⟩, .int .i64 0, .int .i64 0, .int .i64 0, .int .i64 0], .int .i64 4]) W))
    (h8 : ∀ W, Calls Try.prog 19 #[.string L] W (RetBelow (.tuple #[.agg #[.int .i64 0, .string ⟨#[]⟩, .int .i64 0, .int .i64 0, .int .i64 0, .int .i64 0], .int .i64 4]) W)) :
    Calls Try.prog 6 #[.agg #[.int .i64 o, .string s, .string t, .int .i64 a, .int .i64 b, .int .i64 c, .int .i64 n], .agg #[.int .i64 o1, .string s1, .int .i64 a1, .int .i64 b1, .int .i64 c1, .int .i64 n1], .string L] w (RetBelow (.bool true) w) := by
  have H1 := Lib.hid h1
  have H4 := Lib.hid h4
  have H6 := Lib.hid h6
  have H8 := Lib.hid h8
  have HAW := Lib.hid awakeC_any
  clear h1 h4 h6 h8
  have q1 : ∀ V : World, (binOp .neq 25 (.agg #[.int .i64 o, .string s, .string t, .int .i64 a, .int .i64 b, .int .i64 c, .int .i64 n]) (.agg #[.int .i64 o, .string s, .string t, .int .i64 a, .int .i64 b, .int .i64 c, .int .i64 n])).run Try.prog V = .ok (.bool false) V := fun V => by rw [neq25v, eqC_self]; rfl
  have q2 : ∀ V : World, (binOp .neq 34 (.agg #[.int .i64 o1, .string s1, .int .i64 a1, .int .i64 b1, .int .i64 c1, .int .i64 n1]) (.agg #[.int .i64 o1, .string s1, .int .i64 a1, .int .i64 b1, .int .i64 c1, .int .i64 n1])).run Try.prog V = .ok (.bool false) V := fun V => by rw [neq34v, eqR_self]; rfl
  have q3 : ∀ V : World, (binOp .eql 34 (.agg #[.int .i64 0, .string ⟨#[]⟩, .int .i64 0, .int .i64 0, .int .i64 0, .int .i64 0]) (.agg #[.int .i64 0, .string ⟨#[]⟩, .int .i64 0, .int .i64 0, .int .i64 0, .int .i64 0])).run Try.prog V = .ok (.bool true) V := fun V => by rw [eq34v, eqR_self]
  have q4 : ∀ V : World, (Instr.build 34 #[]).run Try.prog V = .ok (.agg #[.int .i64 0, .string ⟨#[]⟩, .int .i64 0, .int .i64 0, .int .i64 0, .int .i64 0]) V := fun V => run_build V 34 _ _ (by kernel_rfl)
  obtain ⟨W, hW⟩ : ∃ W, (w.alloc (.cells #[.int .i64 o, .string s, .string t, .int .i64 a, .int .i64 b, .int .i64 c, .int .i64 n] 25)).alloc (.cells #[.int .i64 o1, .string s1, .int .i64 a1, .int .i64 b1, .int .i64 c1, .int .i64 n1] 34) = W := ⟨_, rfl⟩
  have g1 : W.heap[w.heap.size]? = some (cRowV o s t a b c n) := by rw [← hW]; exact keepAlloc _ (heap_alloc_new w _)
  have g2 : W.heap[w.heap.size + 1]? = some (rRowV o1 s1 a1 b1 c1 n1) := by rw [← hW, show w.heap.size + 1 = (w.alloc (.cells #[.int .i64 o, .string s, .string t, .int .i64 a, .int .i64 b, .int .i64 c, .int .i64 n] 25)).heap.size from by simp]; exact heap_alloc_new _ _
  have hz : W.heap.size = w.heap.size + 2 := by rw [← hW]; simp
  have HB0 : Hid (Below w.heap.size w W) := Lib.hid (by rw [← hW]; exact ((Below.refl _ _).alloc (Nat.le_refl _) _).alloc (by simp) _)
  have HK := Lib.hid (fun V (h : Below W.heap.size W V) => cat_of g1 (by omega) h)
  have HJ := Lib.hid (fun V (h : Below W.heap.size W V) => rat_of g2 (by omega) h)
  have HW := Lib.hid hW
  have l1 : w.heap.size < W.heap.size := by omega
  have l2 : w.heap.size + 1 < W.heap.size := by omega
  have HZ1 := Lib.hid l1
  have HZ2 := Lib.hid l2
  clear hW g1 g2 hz
  have BN := Lib.hid (Below.refl W.heap.size W)
  obtain ⟨d0, d1, d2, d3, d4, d5, d6⟩ := HK.out _ BN.out
  obtain ⟨e0, e1, e2, e3, e4, e5⟩ := HJ.out _ BN.out
  go_enter Try.func6, Try.ntmps6
  go_wp2_with fail
  rw [HW.out]
  go_wp2_with (first
    | (go_at_call 11; (with_reducible refine (H1.out _).mono ?_); rintro e wx ⟨rfl, h⟩; replace BN : Hid (Below W.heap.size W wx) := Lib.hid (by first | exact BN.out.trans (h.mono BN.out.size) | exact (BN.out.alloc BN.out.size _).trans (h.mono (Nat.le_trans BN.out.size (by simp)))); clear h l1 l2 d0 d1 d2 d3 d4 d5 d6 e0 e1 e2 e3 e4 e5; obtain ⟨d0, d1, d2, d3, d4, d5, d6⟩ := HK.out _ BN.out; obtain ⟨e0, e1, e2, e3, e4, e5⟩ := HJ.out _ BN.out; have l1 := Nat.lt_of_lt_of_le HZ1.out BN.out.size; have l2 := Nat.lt_of_lt_of_le HZ2.out BN.out.size)
    | (go_at_call 21; (with_reducible refine (H4.out _).mono ?_); rintro e wx ⟨rfl, h⟩; replace BN : Hid (Below W.heap.size W wx) := Lib.hid (by first | exact BN.out.trans (h.mono BN.out.size) | exact (BN.out.alloc BN.out.size _).trans (h.mono (Nat.le_trans BN.out.size (by simp)))); clear h l1 l2 d0 d1 d2 d3 d4 d5 d6 e0 e1 e2 e3 e4 e5; obtain ⟨d0, d1, d2, d3, d4, d5, d6⟩ := HK.out _ BN.out; obtain ⟨e0, e1, e2, e3, e4, e5⟩ := HJ.out _ BN.out; have l1 := Nat.lt_of_lt_of_le HZ1.out BN.out.size; have l2 := Nat.lt_of_lt_of_le HZ2.out BN.out.size)
    | (go_at_call 17; (with_reducible refine (H6.out _).mono ?_); rintro e wx ⟨rfl, h⟩; replace BN : Hid (Below W.heap.size W wx) := Lib.hid (by first | exact BN.out.trans (h.mono BN.out.size) | exact (BN.out.alloc BN.out.size _).trans (h.mono (Nat.le_trans BN.out.size (by simp)))); clear h l1 l2 d0 d1 d2 d3 d4 d5 d6 e0 e1 e2 e3 e4 e5; obtain ⟨d0, d1, d2, d3, d4, d5, d6⟩ := HK.out _ BN.out; obtain ⟨e0, e1, e2, e3, e4, e5⟩ := HJ.out _ BN.out; have l1 := Nat.lt_of_lt_of_le HZ1.out BN.out.size; have l2 := Nat.lt_of_lt_of_le HZ2.out BN.out.size)
    | (go_at_call 19; (with_reducible refine (H8.out _).mono ?_); rintro e wx ⟨rfl, h⟩; replace BN : Hid (Below W.heap.size W wx) := Lib.hid (by first | exact BN.out.trans (h.mono BN.out.size) | exact (BN.out.alloc BN.out.size _).trans (h.mono (Nat.le_trans BN.out.size (by simp)))); clear h l1 l2 d0 d1 d2 d3 d4 d5 d6 e0 e1 e2 e3 e4 e5; obtain ⟨d0, d1, d2, d3, d4, d5, d6⟩ := HK.out _ BN.out; obtain ⟨e0, e1, e2, e3, e4, e5⟩ := HJ.out _ BN.out; have l1 := Nat.lt_of_lt_of_le HZ1.out BN.out.size; have l2 := Nat.lt_of_lt_of_le HZ2.out BN.out.size)
    | (go_at_call 10; (with_reducible refine (HAW.out _).mono ?_); rintro e wx ⟨rfl, h⟩; replace BN : Hid (Below W.heap.size W wx) := Lib.hid (by first | exact BN.out.trans (h.mono BN.out.size) | exact (BN.out.alloc BN.out.size _).trans (h.mono (Nat.le_trans BN.out.size (by simp)))); clear h l1 l2 d0 d1 d2 d3 d4 d5 d6 e0 e1 e2 e3 e4 e5; obtain ⟨d0, d1, d2, d3, d4, d5, d6⟩ := HK.out _ BN.out; obtain ⟨e0, e1, e2, e3, e4, e5⟩ := HJ.out _ BN.out; have l1 := Nat.lt_of_lt_of_le HZ1.out BN.out.size; have l2 := Nat.lt_of_lt_of_le HZ2.out BN.out.size))
  go_ret
  exact ⟨rfl, HB0.out.trans ((by first | exact BN.out | exact BN.out.alloc BN.out.size _ : Below W.heap.size W _).mono HB0.out.size)⟩
theorem law_back (o : Int) (s t : ByteArray) (a b c n : Int) (o1 : Int) (s1 : ByteArray) (a1 b1 c1 n1 : Int) (l : List UInt8) (w : World) (ho : InR o) (hs : s.size ≤ 140737488351232) (ht : t.size ≤ 140737488351232) (ha : InR a) (hb : InR b) (hc : InR c) (hn : InR n)
    (ho1 : InR o1) (hs1 : s1.size ≤ 140737488351232) (ha1 : InR a1) (hb1 : InR b1) (hc1 : InR c1) (hn1 : InR n1) (hl : l.length ≤ 140737488351232) :
    Calls Try.prog 6 #[.agg #[.int .i64 o, .string s, .string t, .int .i64 a, .int .i64 b, .int .i64 c, .int .i64 n], .agg #[.int .i64 o1, .string s1, .int .i64 a1, .int .i64 b1, .int .i64 c1, .int .i64 n1], .string (Nm.str l)] w (RetBelow (.bool true) w) := by
  have h1 := fun W => encodeC_any o s t a b c n W ho (by omega) (by omega) ha hb hc hn
  have h3 := fun W => may_any o s t a b c n W (by omega) (by omega)
  have h4 := fun W => packR_any o1 s1 a1 b1 c1 n1 W ho1 ha1 hb1 hc1 hn1
  have h6 := fun W => decodeC_any l W (by omega)
  have h8 := fun W => unpackR_any l W (by omega)
  unfold EncCPost at h1
  unfold MayPost at h3
  unfold PackPost at h4
  unfold DecP at h6 h8
  have h2 : mayC o s t a b c n = true → ∀ W, Calls Try.prog 17 #[.string (Nm.str (cIt o s t a b c n).enc)] W (RetBelow (.tuple #[.agg #[.int .i64 o, .string s, .string t, .int .i64 a, .int .i64 b, .int .i64 c, .int .i64 n], .int .i64 0]) W) := fun hm W => by
    obtain ⟨z1, z2⟩ := mayC_name hm
    have := enc_small (errOf_cIt o s t a b c n z1 z2)
    have h := decodeC_any (cIt o s t a b c n).enc W (by omega)
    rw [(resC_iff _ o s t a b c n).2 ⟨hm, ho, ha, hb, hc, hn, rfl⟩] at h
    exact h
  have h5 : mayR o1 s1 = true → ∀ W, Calls Try.prog 19 #[.string (Nm.str (rIt o1 s1 a1 b1 c1 n1).enc)] W (RetBelow (.tuple #[.agg #[.int .i64 o1, .string s1, .int .i64 a1, .int .i64 b1, .int .i64 c1, .int .i64 n1], .int .i64 0]) W) := fun hm W => by
    obtain ⟨_, _, z1⟩ := mayR_size hm
    have := enc_small (errOf_rIt o1 s1 a1 b1 c1 n1 (by omega))
    have h := unpackR_any (rIt o1 s1 a1 b1 c1 n1).enc W (by omega)
    rw [(resR_iff _ o1 s1 a1 b1 c1 n1).2 ⟨hm, ho1, ha1, hb1, hc1, hn1, rfl⟩] at h
    exact h
  have h7 : ∀ o s t a b c n, resC l = some (o, s, t, a, b, c, n) → ∀ W, Calls Try.prog 11 #[.agg #[.int .i64 o, .string s, .string t, .int .i64 a, .int .i64 b, .int .i64 c, .int .i64 n]] W (RetBelow (.tuple #[.string (Nm.str l), .int .i64 0]) W) := fun o s t a b c n hr W => by
    obtain ⟨hm, r1, r2, r3, r4, r5, e⟩ := (resC_iff l o s t a b c n).1 hr
    obtain ⟨z1, z2⟩ := mayC_name hm
    have h := encodeC_any o s t a b c n W r1 (by omega) (by omega) r2 r3 r4 r5
    unfold EncCPost at h
    rw [(encC_yes hm).1, (encC_yes hm).2, ← e] at h
    exact h
  have h9 : ∀ o s a b c n, resR l = some (o, s, a, b, c, n) → ∀ W, Calls Try.prog 21 #[.agg #[.int .i64 o, .string s, .int .i64 a, .int .i64 b, .int .i64 c, .int .i64 n]] W (RetBelow (.tuple #[.string (Nm.str l), .int .i64 0]) W) := fun o s a b c n hr W => by
    obtain ⟨hm, r1, r2, r3, r4, r5, e⟩ := (resR_iff l o s a b c n).1 hr
    have h := packR_any o s a b c n W r1 r2 r3 r4 r5
    unfold PackPost at h
    rw [(packR_yes hm).1, (packR_yes hm).2, ← e] at h
    exact h
  cases hm : mayC o s t a b c n
  · rw [(encC_no hm).1, (encC_no hm).2] at h1
    cases hr : mayR o1 s1
    · simp only [(packR_no hr).1, (packR_no hr).2] at h4
      cases hd : resC l with
      | none =>
        rw [hd] at h6
        cases hu : resR l with
        | none =>
          rw [hu] at h8
          exact back_FFFF ⟨#[]⟩ ⟨#[]⟩ _ o s t a b c n o1 s1 a1 b1 c1 n1 0 ⟨#[]⟩ ⟨#[]⟩ 0 0 0 0 0 ⟨#[]⟩ 0 0 0 0 w h1 h4 h6 h8
        | some y =>
          rw [hu] at h8
          exact back_FFFT ⟨#[]⟩ ⟨#[]⟩ _ o s t a b c n o1 s1 a1 b1 c1 n1 0 ⟨#[]⟩ ⟨#[]⟩ 0 0 0 0 y.1 y.2.1 y.2.2.1 y.2.2.2.1 y.2.2.2.2.1 y.2.2.2.2.2 w h1 h4 h6 h8 (h9 _ _ _ _ _ _ hu)
      | some x =>
        rw [hd] at h6
        cases hu : resR l with
        | none =>
          rw [hu] at h8
          exact back_FFTF ⟨#[]⟩ ⟨#[]⟩ _ o s t a b c n o1 s1 a1 b1 c1 n1 x.1 x.2.1 x.2.2.1 x.2.2.2.1 x.2.2.2.2.1 x.2.2.2.2.2.1 x.2.2.2.2.2.2 0 ⟨#[]⟩ 0 0 0 0 w h1 h4 h6 (h7 _ _ _ _ _ _ _ hd) h8
        | some y =>
          rw [hu] at h8
          exact back_FFTT ⟨#[]⟩ ⟨#[]⟩ _ o s t a b c n o1 s1 a1 b1 c1 n1 x.1 x.2.1 x.2.2.1 x.2.2.2.1 x.2.2.2.2.1 x.2.2.2.2.2.1 x.2.2.2.2.2.2 y.1 y.2.1 y.2.2.1 y.2.2.2.1 y.2.2.2.2.1 y.2.2.2.2.2 w h1 h4 h6 (h7 _ _ _ _ _ _ _ hd) h8 (h9 _ _ _ _ _ _ hu)
    · simp only [(packR_yes hr).1, (packR_yes hr).2] at h4
      cases hd : resC l with
      | none =>
        rw [hd] at h6
        cases hu : resR l with
        | none =>
          rw [hu] at h8
          exact back_FTFF ⟨#[]⟩ (Nm.str (rIt o1 s1 a1 b1 c1 n1).enc) _ o s t a b c n o1 s1 a1 b1 c1 n1 0 ⟨#[]⟩ ⟨#[]⟩ 0 0 0 0 0 ⟨#[]⟩ 0 0 0 0 w h1 h4 (h5 hr) h6 h8
        | some y =>
          rw [hu] at h8
          exact back_FTFT ⟨#[]⟩ (Nm.str (rIt o1 s1 a1 b1 c1 n1).enc) _ o s t a b c n o1 s1 a1 b1 c1 n1 0 ⟨#[]⟩ ⟨#[]⟩ 0 0 0 0 y.1 y.2.1 y.2.2.1 y.2.2.2.1 y.2.2.2.2.1 y.2.2.2.2.2 w h1 h4 (h5 hr) h6 h8 (h9 _ _ _ _ _ _ hu)
      | some x =>
        rw [hd] at h6
        cases hu : resR l with
        | none =>
          rw [hu] at h8
          exact back_FTTF ⟨#[]⟩ (Nm.str (rIt o1 s1 a1 b1 c1 n1).enc) _ o s t a b c n o1 s1 a1 b1 c1 n1 x.1 x.2.1 x.2.2.1 x.2.2.2.1 x.2.2.2.2.1 x.2.2.2.2.2.1 x.2.2.2.2.2.2 0 ⟨#[]⟩ 0 0 0 0 w h1 h4 (h5 hr) h6 (h7 _ _ _ _ _ _ _ hd) h8
        | some y =>
          rw [hu] at h8
          exact back_FTTT ⟨#[]⟩ (Nm.str (rIt o1 s1 a1 b1 c1 n1).enc) _ o s t a b c n o1 s1 a1 b1 c1 n1 x.1 x.2.1 x.2.2.1 x.2.2.2.1 x.2.2.2.2.1 x.2.2.2.2.2.1 x.2.2.2.2.2.2 y.1 y.2.1 y.2.2.1 y.2.2.2.1 y.2.2.2.2.1 y.2.2.2.2.2 w h1 h4 (h5 hr) h6 (h7 _ _ _ _ _ _ _ hd) h8 (h9 _ _ _ _ _ _ hu)
  · rw [(encC_yes hm).1, (encC_yes hm).2] at h1
    simp only [hm] at h3
    cases hr : mayR o1 s1
    · simp only [(packR_no hr).1, (packR_no hr).2] at h4
      cases hd : resC l with
      | none =>
        rw [hd] at h6
        cases hu : resR l with
        | none =>
          rw [hu] at h8
          exact back_TFFF (Nm.str (cIt o s t a b c n).enc) ⟨#[]⟩ _ o s t a b c n o1 s1 a1 b1 c1 n1 0 ⟨#[]⟩ ⟨#[]⟩ 0 0 0 0 0 ⟨#[]⟩ 0 0 0 0 w h1 (h2 hm) h3 h4 h6 h8
        | some y =>
          rw [hu] at h8
          exact back_TFFT (Nm.str (cIt o s t a b c n).enc) ⟨#[]⟩ _ o s t a b c n o1 s1 a1 b1 c1 n1 0 ⟨#[]⟩ ⟨#[]⟩ 0 0 0 0 y.1 y.2.1 y.2.2.1 y.2.2.2.1 y.2.2.2.2.1 y.2.2.2.2.2 w h1 (h2 hm) h3 h4 h6 h8 (h9 _ _ _ _ _ _ hu)
      | some x =>
        rw [hd] at h6
        cases hu : resR l with
        | none =>
          rw [hu] at h8
          exact back_TFTF (Nm.str (cIt o s t a b c n).enc) ⟨#[]⟩ _ o s t a b c n o1 s1 a1 b1 c1 n1 x.1 x.2.1 x.2.2.1 x.2.2.2.1 x.2.2.2.2.1 x.2.2.2.2.2.1 x.2.2.2.2.2.2 0 ⟨#[]⟩ 0 0 0 0 w h1 (h2 hm) h3 h4 h6 (h7 _ _ _ _ _ _ _ hd) h8
        | some y =>
          rw [hu] at h8
          exact back_TFTT (Nm.str (cIt o s t a b c n).enc) ⟨#[]⟩ _ o s t a b c n o1 s1 a1 b1 c1 n1 x.1 x.2.1 x.2.2.1 x.2.2.2.1 x.2.2.2.2.1 x.2.2.2.2.2.1 x.2.2.2.2.2.2 y.1 y.2.1 y.2.2.1 y.2.2.2.1 y.2.2.2.2.1 y.2.2.2.2.2 w h1 (h2 hm) h3 h4 h6 (h7 _ _ _ _ _ _ _ hd) h8 (h9 _ _ _ _ _ _ hu)
    · simp only [(packR_yes hr).1, (packR_yes hr).2] at h4
      cases hd : resC l with
      | none =>
        rw [hd] at h6
        cases hu : resR l with
        | none =>
          rw [hu] at h8
          exact back_TTFF (Nm.str (cIt o s t a b c n).enc) (Nm.str (rIt o1 s1 a1 b1 c1 n1).enc) _ o s t a b c n o1 s1 a1 b1 c1 n1 0 ⟨#[]⟩ ⟨#[]⟩ 0 0 0 0 0 ⟨#[]⟩ 0 0 0 0 w h1 (h2 hm) h3 h4 (h5 hr) h6 h8
        | some y =>
          rw [hu] at h8
          exact back_TTFT (Nm.str (cIt o s t a b c n).enc) (Nm.str (rIt o1 s1 a1 b1 c1 n1).enc) _ o s t a b c n o1 s1 a1 b1 c1 n1 0 ⟨#[]⟩ ⟨#[]⟩ 0 0 0 0 y.1 y.2.1 y.2.2.1 y.2.2.2.1 y.2.2.2.2.1 y.2.2.2.2.2 w h1 (h2 hm) h3 h4 (h5 hr) h6 h8 (h9 _ _ _ _ _ _ hu)
      | some x =>
        rw [hd] at h6
        cases hu : resR l with
        | none =>
          rw [hu] at h8
          exact back_TTTF (Nm.str (cIt o s t a b c n).enc) (Nm.str (rIt o1 s1 a1 b1 c1 n1).enc) _ o s t a b c n o1 s1 a1 b1 c1 n1 x.1 x.2.1 x.2.2.1 x.2.2.2.1 x.2.2.2.2.1 x.2.2.2.2.2.1 x.2.2.2.2.2.2 0 ⟨#[]⟩ 0 0 0 0 w h1 (h2 hm) h3 h4 (h5 hr) h6 (h7 _ _ _ _ _ _ _ hd) h8
        | some y =>
          rw [hu] at h8
          exact back_TTTT (Nm.str (cIt o s t a b c n).enc) (Nm.str (rIt o1 s1 a1 b1 c1 n1).enc) _ o s t a b c n o1 s1 a1 b1 c1 n1 x.1 x.2.1 x.2.2.1 x.2.2.2.1 x.2.2.2.2.1 x.2.2.2.2.2.1 x.2.2.2.2.2.2 y.1 y.2.1 y.2.2.1 y.2.2.2.1 y.2.2.2.2.1 y.2.2.2.2.2 w h1 (h2 hm) h3 h4 (h5 hr) h6 (h7 _ _ _ _ _ _ _ hd) h8 (h9 _ _ _ _ _ _ hu)
end Go.Proofs.Ytiedeneglhboiaa
