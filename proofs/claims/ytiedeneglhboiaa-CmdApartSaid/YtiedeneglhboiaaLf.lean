import Derived.Test.YtiedeneglhboiaaLd
namespace Go.Proofs.Ytiedeneglhboiaa
open Go.RowKit Pl
set_option linter.unusedVariables false
set_option maxRecDepth 20000
set_option maxHeartbeats 1000000 in
theorem apart_TFEQ (X1 X2 Y1 Y2 : ByteArray) (o1 : Int) (s1 t1 : ByteArray) (a1 b1 c1 n1 : Int) (o2 : Int) (s2 t2 : ByteArray) (a2 b2 c2 n2 : Int) (o3 : Int) (s3 : ByteArray) (a3 b3 c3 n3 : Int) (o4 : Int) (s4 : ByteArray) (a4 b4 c4 n4 : Int) (w : World)
    (h1 : ∀ W, Calls Try.prog 11 #[.agg #[.int .i64 o1, .string s1, .string t1, .int .i64 a1, .int .i64 b1, .int .i64 c1, .int .i64 n1]] W (RetBelow (.tuple #[.string X1, .int .i64 0]) W))
    (h2 : ∀ W, Calls Try.prog 11 #[.agg #[.int .i64 o2, .string s2, .string t2, .int .i64 a2, .int .i64 b2, .int .i64 c2, .int .i64 n2]] W (RetBelow (.tuple #[.string ⟨#[]⟩, .int .i64 4]) W))
    (h3 : ∀ W, Calls Try.prog 21 #[.agg #[.int .i64 o3, .string s3, .int .i64 a3, .int .i64 b3, .int .i64 c3, .int .i64 n3]] W (RetBelow (.tuple #[.string Y1, .int .i64 0]) W))
    (z1 : (X1.toList == Y1.toList) = false) :
    Calls Try.prog 7 #[.agg #[.int .i64 o1, .string s1, .string t1, .int .i64 a1, .int .i64 b1, .int .i64 c1, .int .i64 n1], .agg #[.int .i64 o2, .string s2, .string t2, .int .i64 a2, .int .i64 b2, .int .i64 c2, .int .i64 n2], .agg #[.int .i64 o3, .string s3, .int .i64 a3, .int .i64 b3, .int .i64 c3, .int .i64 n3], .agg #[.int .i64 o3, .string s3, .int .i64 a3, .int .i64 b3, .int .i64 c3, .int .i64 n3]] w (RetBelow (.bool true) w) := by
  have H1 := Lib.hid h1
  have H2 := Lib.hid h2
  have H3 := Lib.hid h3
  have HAW := Lib.hid awakeC_any
  clear h1 h2 h3
  have q2 : ∀ V : World, (binOp .eql 34 (.agg #[.int .i64 o3, .string s3, .int .i64 a3, .int .i64 b3, .int .i64 c3, .int .i64 n3]) (.agg #[.int .i64 o3, .string s3, .int .i64 a3, .int .i64 b3, .int .i64 c3, .int .i64 n3])).run Try.prog V = .ok (.bool true) V := fun V => by rw [eq34v, eqR_self]
  obtain ⟨W, hW⟩ : ∃ W, (((w.alloc (.cells #[.int .i64 o1, .string s1, .string t1, .int .i64 a1, .int .i64 b1, .int .i64 c1, .int .i64 n1] 25)).alloc (.cells #[.int .i64 o2, .string s2, .string t2, .int .i64 a2, .int .i64 b2, .int .i64 c2, .int .i64 n2] 25)).alloc (.cells #[.int .i64 o3, .string s3, .int .i64 a3, .int .i64 b3, .int .i64 c3, .int .i64 n3] 34)).alloc (.cells #[.int .i64 o3, .string s3, .int .i64 a3, .int .i64 b3, .int .i64 c3, .int .i64 n3] 34) = W := ⟨_, rfl⟩
  have g0 : W.heap[w.heap.size]? = some (cRowV o1 s1 t1 a1 b1 c1 n1) := by rw [← hW]; exact keepAlloc _ (keepAlloc _ (keepAlloc _ (heap_alloc_new w _)))
  have g1 : W.heap[w.heap.size + 1]? = some (cRowV o2 s2 t2 a2 b2 c2 n2) := by rw [← hW]; exact keepAlloc _ (keepAlloc _ (by rw [show w.heap.size + 1 = (w.alloc (.cells #[.int .i64 o1, .string s1, .string t1, .int .i64 a1, .int .i64 b1, .int .i64 c1, .int .i64 n1] 25)).heap.size from by simp]; exact heap_alloc_new _ _))
  have g2 : W.heap[w.heap.size + 1 + 1]? = some (rRowV o3 s3 a3 b3 c3 n3) := by rw [← hW]; exact keepAlloc _ (by rw [show w.heap.size + 1 + 1 = ((w.alloc (.cells #[.int .i64 o1, .string s1, .string t1, .int .i64 a1, .int .i64 b1, .int .i64 c1, .int .i64 n1] 25)).alloc (.cells #[.int .i64 o2, .string s2, .string t2, .int .i64 a2, .int .i64 b2, .int .i64 c2, .int .i64 n2] 25)).heap.size from by simp]; exact heap_alloc_new _ _)
  have g3 : W.heap[w.heap.size + 1 + 1 + 1]? = some (rRowV o3 s3 a3 b3 c3 n3) := by rw [← hW]; rw [show w.heap.size + 1 + 1 + 1 = (((w.alloc (.cells #[.int .i64 o1, .string s1, .string t1, .int .i64 a1, .int .i64 b1, .int .i64 c1, .int .i64 n1] 25)).alloc (.cells #[.int .i64 o2, .string s2, .string t2, .int .i64 a2, .int .i64 b2, .int .i64 c2, .int .i64 n2] 25)).alloc (.cells #[.int .i64 o3, .string s3, .int .i64 a3, .int .i64 b3, .int .i64 c3, .int .i64 n3] 34)).heap.size from by simp]; exact heap_alloc_new _ _
  have hz : W.heap.size = w.heap.size + 4 := by rw [← hW]; simp
  have HB0 : Hid (Below w.heap.size w W) := Lib.hid (by rw [← hW]; exact ((((Below.refl _ _).alloc (Nat.le_refl _) _).alloc (by simp) _).alloc (by simp; omega) _).alloc (by simp; omega) _)
  have HK0 := Lib.hid (fun V (h : Below W.heap.size W V) => cat_of g0 (by omega) h)
  have HK1 := Lib.hid (fun V (h : Below W.heap.size W V) => cat_of g1 (by omega) h)
  have HK2 := Lib.hid (fun V (h : Below W.heap.size W V) => rat_of g2 (by omega) h)
  have HK3 := Lib.hid (fun V (h : Below W.heap.size W V) => rat_of g3 (by omega) h)
  have HW := Lib.hid hW
  clear hW g0 g1 g2 g3 hz
  have BN := Lib.hid (Below.refl W.heap.size W)
  obtain ⟨kc0, kc1, kc2, kc3, kc4, kc5, kc6⟩ := HK0.out _ BN.out; obtain ⟨kd0, kd1, kd2, kd3, kd4, kd5, kd6⟩ := HK1.out _ BN.out; obtain ⟨ke0, ke1, ke2, ke3, ke4, ke5⟩ := HK2.out _ BN.out; obtain ⟨kf0, kf1, kf2, kf3, kf4, kf5⟩ := HK3.out _ BN.out
  go_enter Try.func7, Try.ntmps7
  go_wp2_with fail
  rw [HW.out]
  go_wp2_with (first
    | (go_at_call 11; (with_reducible refine (H1.out _).mono ?_); rintro e wx ⟨rfl, h⟩; replace BN : Hid (Below W.heap.size W wx) := Lib.hid (BN.out.trans (h.mono BN.out.size)); clear h kc0 kc1 kc2 kc3 kc4 kc5 kc6 kd0 kd1 kd2 kd3 kd4 kd5 kd6 ke0 ke1 ke2 ke3 ke4 ke5 kf0 kf1 kf2 kf3 kf4 kf5; obtain ⟨kc0, kc1, kc2, kc3, kc4, kc5, kc6⟩ := HK0.out _ BN.out; obtain ⟨kd0, kd1, kd2, kd3, kd4, kd5, kd6⟩ := HK1.out _ BN.out; obtain ⟨ke0, ke1, ke2, ke3, ke4, ke5⟩ := HK2.out _ BN.out; obtain ⟨kf0, kf1, kf2, kf3, kf4, kf5⟩ := HK3.out _ BN.out)
    | (go_at_call 11; (with_reducible refine (H2.out _).mono ?_); rintro e wx ⟨rfl, h⟩; replace BN : Hid (Below W.heap.size W wx) := Lib.hid (BN.out.trans (h.mono BN.out.size)); clear h kc0 kc1 kc2 kc3 kc4 kc5 kc6 kd0 kd1 kd2 kd3 kd4 kd5 kd6 ke0 ke1 ke2 ke3 ke4 ke5 kf0 kf1 kf2 kf3 kf4 kf5; obtain ⟨kc0, kc1, kc2, kc3, kc4, kc5, kc6⟩ := HK0.out _ BN.out; obtain ⟨kd0, kd1, kd2, kd3, kd4, kd5, kd6⟩ := HK1.out _ BN.out; obtain ⟨ke0, ke1, ke2, ke3, ke4, ke5⟩ := HK2.out _ BN.out; obtain ⟨kf0, kf1, kf2, kf3, kf4, kf5⟩ := HK3.out _ BN.out)
    | (go_at_call 21; (with_reducible refine (H3.out _).mono ?_); rintro e wx ⟨rfl, h⟩; replace BN : Hid (Below W.heap.size W wx) := Lib.hid (BN.out.trans (h.mono BN.out.size)); clear h kc0 kc1 kc2 kc3 kc4 kc5 kc6 kd0 kd1 kd2 kd3 kd4 kd5 kd6 ke0 ke1 ke2 ke3 ke4 ke5 kf0 kf1 kf2 kf3 kf4 kf5; obtain ⟨kc0, kc1, kc2, kc3, kc4, kc5, kc6⟩ := HK0.out _ BN.out; obtain ⟨kd0, kd1, kd2, kd3, kd4, kd5, kd6⟩ := HK1.out _ BN.out; obtain ⟨ke0, ke1, ke2, ke3, ke4, ke5⟩ := HK2.out _ BN.out; obtain ⟨kf0, kf1, kf2, kf3, kf4, kf5⟩ := HK3.out _ BN.out)
    | (go_at_call 10; (with_reducible refine (HAW.out _).mono ?_); rintro e wx ⟨rfl, h⟩; replace BN : Hid (Below W.heap.size W wx) := Lib.hid (BN.out.trans (h.mono BN.out.size)); clear h kc0 kc1 kc2 kc3 kc4 kc5 kc6 kd0 kd1 kd2 kd3 kd4 kd5 kd6 ke0 ke1 ke2 ke3 ke4 ke5 kf0 kf1 kf2 kf3 kf4 kf5; obtain ⟨kc0, kc1, kc2, kc3, kc4, kc5, kc6⟩ := HK0.out _ BN.out; obtain ⟨kd0, kd1, kd2, kd3, kd4, kd5, kd6⟩ := HK1.out _ BN.out; obtain ⟨ke0, ke1, ke2, ke3, ke4, ke5⟩ := HK2.out _ BN.out; obtain ⟨kf0, kf1, kf2, kf3, kf4, kf5⟩ := HK3.out _ BN.out))
  go_ret
  exact ⟨rfl, HB0.out.trans (BN.out.mono HB0.out.size)⟩
set_option maxHeartbeats 1000000 in
theorem apart_TFNE (X1 X2 Y1 Y2 : ByteArray) (o1 : Int) (s1 t1 : ByteArray) (a1 b1 c1 n1 : Int) (o2 : Int) (s2 t2 : ByteArray) (a2 b2 c2 n2 : Int) (o3 : Int) (s3 : ByteArray) (a3 b3 c3 n3 : Int) (o4 : Int) (s4 : ByteArray) (a4 b4 c4 n4 : Int) (w : World)
    (h1 : ∀ W, Calls Try.prog 11 #[.agg #[.int .i64 o1, .string s1, .string t1, .int .i64 a1, .int .i64 b1, .int .i64 c1, .int .i64 n1]] W (RetBelow (.tuple #[.string X1, .int .i64 0]) W))
    (h2 : ∀ W, Calls Try.prog 11 #[.agg #[.int .i64 o2, .string s2, .string t2, .int .i64 a2, .int .i64 b2, .int .i64 c2, .int .i64 n2]] W (RetBelow (.tuple #[.string ⟨#[]⟩, .int .i64 4]) W))
    (h3 : ∀ W, Calls Try.prog 21 #[.agg #[.int .i64 o3, .string s3, .int .i64 a3, .int .i64 b3, .int .i64 c3, .int .i64 n3]] W (RetBelow (.tuple #[.string Y1, .int .i64 0]) W))
    (h4 : ∀ W, Calls Try.prog 21 #[.agg #[.int .i64 o4, .string s4, .int .i64 a4, .int .i64 b4, .int .i64 c4, .int .i64 n4]] W (RetBelow (.tuple #[.string Y2, .int .i64 0]) W))
    (y1 : (Y1.toList == Y2.toList) = false)
    (y2 : eqR o3 s3 a3 b3 c3 n3 o4 s4 a4 b4 c4 n4 = false)
    (z1 : (X1.toList == Y1.toList) = false) :
    Calls Try.prog 7 #[.agg #[.int .i64 o1, .string s1, .string t1, .int .i64 a1, .int .i64 b1, .int .i64 c1, .int .i64 n1], .agg #[.int .i64 o2, .string s2, .string t2, .int .i64 a2, .int .i64 b2, .int .i64 c2, .int .i64 n2], .agg #[.int .i64 o3, .string s3, .int .i64 a3, .int .i64 b3, .int .i64 c3, .int .i64 n3], .agg #[.int .i64 o4, .string s4, .int .i64 a4, .int .i64 b4, .int .i64 c4, .int .i64 n4]] w (RetBelow (.bool true) w) := by
  have H1 := Lib.hid h1
  have H2 := Lib.hid h2
  have H3 := Lib.hid h3
  have H4 := Lib.hid h4
  have HAW := Lib.hid awakeC_any
  clear h1 h2 h3 h4
  have q2 : ∀ V : World, (binOp .eql 34 (.agg #[.int .i64 o3, .string s3, .int .i64 a3, .int .i64 b3, .int .i64 c3, .int .i64 n3]) (.agg #[.int .i64 o4, .string s4, .int .i64 a4, .int .i64 b4, .int .i64 c4, .int .i64 n4])).run Try.prog V = .ok (.bool false) V := fun V => by rw [eq34v, y2]
  clear y2
  obtain ⟨W, hW⟩ : ∃ W, (((w.alloc (.cells #[.int .i64 o1, .string s1, .string t1, .int .i64 a1, .int .i64 b1, .int .i64 c1, .int .i64 n1] 25)).alloc (.cells #[.int .i64 o2, .string s2, .string t2, .int .i64 a2, .int .i64 b2, .int .i64 c2, .int .i64 n2] 25)).alloc (.cells #[.int .i64 o3, .string s3, .int .i64 a3, .int .i64 b3, .int .i64 c3, .int .i64 n3] 34)).alloc (.cells #[.int .i64 o4, .string s4, .int .i64 a4, .int .i64 b4, .int .i64 c4, .int .i64 n4] 34) = W := ⟨_, rfl⟩
  have g0 : W.heap[w.heap.size]? = some (cRowV o1 s1 t1 a1 b1 c1 n1) := by rw [← hW]; exact keepAlloc _ (keepAlloc _ (keepAlloc _ (heap_alloc_new w _)))
  have g1 : W.heap[w.heap.size + 1]? = some (cRowV o2 s2 t2 a2 b2 c2 n2) := by rw [← hW]; exact keepAlloc _ (keepAlloc _ (by rw [show w.heap.size + 1 = (w.alloc (.cells #[.int .i64 o1, .string s1, .string t1, .int .i64 a1, .int .i64 b1, .int .i64 c1, .int .i64 n1] 25)).heap.size from by simp]; exact heap_alloc_new _ _))
  have g2 : W.heap[w.heap.size + 1 + 1]? = some (rRowV o3 s3 a3 b3 c3 n3) := by rw [← hW]; exact keepAlloc _ (by rw [show w.heap.size + 1 + 1 = ((w.alloc (.cells #[.int .i64 o1, .string s1, .string t1, .int .i64 a1, .int .i64 b1, .int .i64 c1, .int .i64 n1] 25)).alloc (.cells #[.int .i64 o2, .string s2, .string t2, .int .i64 a2, .int .i64 b2, .int .i64 c2, .int .i64 n2] 25)).heap.size from by simp]; exact heap_alloc_new _ _)
  have g3 : W.heap[w.heap.size + 1 + 1 + 1]? = some (rRowV o4 s4 a4 b4 c4 n4) := by rw [← hW]; rw [show w.heap.size + 1 + 1 + 1 = (((w.alloc (.cells #[.int .i64 o1, .string s1, .string t1, .int .i64 a1, .int .i64 b1, .int .i64 c1, .int .i64 n1] 25)).alloc (.cells #[.int .i64 o2, .string s2, .string t2, .int .i64 a2, .int .i64 b2, .int .i64 c2, .int .i64 n2] 25)).alloc (.cells #[.int .i64 o3, .string s3, .int .i64 a3, .int .i64 b3, .int .i64 c3, .int .i64 n3] 34)).heap.size from by simp]; exact heap_alloc_new _ _
  have hz : W.heap.size = w.heap.size + 4 := by rw [← hW]; simp
  have HB0 : Hid (Below w.heap.size w W) := Lib.hid (by rw [← hW]; exact ((((Below.refl _ _).alloc (Nat.le_refl _) _).alloc (by simp) _).alloc (by simp; omega) _).alloc (by simp; omega) _)
  have HK0 := Lib.hid (fun V (h : Below W.heap.size W V) => cat_of g0 (by omega) h)
  have HK1 := Lib.hid (fun V (h : Below W.heap.size W V) => cat_of g1 (by omega) h)
  have HK2 := Lib.hid (fun V (h : Below W.heap.size W V) => rat_of g2 (by omega) h)
  have HK3 := Lib.hid (fun V (h : Below W.heap.size W V) => rat_of g3 (by omega) h)
  have HW := Lib.hid hW
  clear hW g0 g1 g2 g3 hz
  have BN := Lib.hid (Below.refl W.heap.size W)
  obtain ⟨kc0, kc1, kc2, kc3, kc4, kc5, kc6⟩ := HK0.out _ BN.out; obtain ⟨kd0, kd1, kd2, kd3, kd4, kd5, kd6⟩ := HK1.out _ BN.out; obtain ⟨ke0, ke1, ke2, ke3, ke4, ke5⟩ := HK2.out _ BN.out; obtain ⟨kf0, kf1, kf2, kf3, kf4, kf5⟩ := HK3.out _ BN.out
  go_enter Try.func7, Try.ntmps7
  go_wp2_with fail
  rw [HW.out]
  go_wp2_with (first
    | (go_at_call 11; (with_reducible refine (H1.out _).mono ?_); rintro e wx ⟨rfl, h⟩; replace BN : Hid (Below W.heap.size W wx) := Lib.hid (BN.out.trans (h.mono BN.out.size)); clear h kc0 kc1 kc2 kc3 kc4 kc5 kc6 kd0 kd1 kd2 kd3 kd4 kd5 kd6 ke0 ke1 ke2 ke3 ke4 ke5 kf0 kf1 kf2 kf3 kf4 kf5; obtain ⟨kc0, kc1, kc2, kc3, kc4, kc5, kc6⟩ := HK0.out _ BN.out; obtain ⟨kd0, kd1, kd2, kd3, kd4, kd5, kd6⟩ := HK1.out _ BN.out; obtain ⟨ke0, ke1, ke2, ke3, ke4, ke5⟩ := HK2.out _ BN.out; obtain ⟨kf0, kf1, kf2, kf3, kf4, kf5⟩ := HK3.out _ BN.out)
    | (go_at_call 11; (with_reducible refine (H2.out _).mono ?_); rintro e wx ⟨rfl, h⟩; replace BN : Hid (Below W.heap.size W wx) := Lib.hid (BN.out.trans (h.mono BN.out.size)); clear h kc0 kc1 kc2 kc3 kc4 kc5 kc6 kd0 kd1 kd2 kd3 kd4 kd5 kd6 ke0 ke1 ke2 ke3 ke4 ke5 kf0 kf1 kf2 kf3 kf4 kf5; obtain ⟨kc0, kc1, kc2, kc3, kc4, kc5, kc6⟩ := HK0.out _ BN.out; obtain ⟨kd0, kd1, kd2, kd3, kd4, kd5, kd6⟩ := HK1.out _ BN.out; obtain ⟨ke0, ke1, ke2, ke3, ke4, ke5⟩ := HK2.out _ BN.out; obtain ⟨kf0, kf1, kf2, kf3, kf4, kf5⟩ := HK3.out _ BN.out)
    | (go_at_call 21; (with_reducible refine (H3.out _).mono ?_); rintro e wx ⟨rfl, h⟩; replace BN : Hid (Below W.heap.size W wx) := Lib.hid (BN.out.trans (h.mono BN.out.size)); clear h kc0 kc1 kc2 kc3 kc4 kc5 kc6 kd0 kd1 kd2 kd3 kd4 kd5 kd6 ke0 ke1 ke2 ke3 ke4 ke5 kf0 kf1 kf2 kf3 kf4 kf5; obtain ⟨kc0, kc1, kc2, kc3, kc4, kc5, kc6⟩ := HK0.out _ BN.out; obtain ⟨kd0, kd1, kd2, kd3, kd4, kd5, kd6⟩ := HK1.out _ BN.out; obtain ⟨ke0, ke1, ke2, ke3, ke4, ke5⟩ := HK2.out _ BN.out; obtain ⟨kf0, kf1, kf2, kf3, kf4, kf5⟩ := HK3.out _ BN.out)
    | (go_at_call 21; (with_reducible refine (H4.out _).mono ?_); rintro e wx ⟨rfl, h⟩; replace BN : Hid (Below W.heap.size W wx) := Lib.hid (BN.out.trans (h.mono BN.out.size)); clear h kc0 kc1 kc2 kc3 kc4 kc5 kc6 kd0 kd1 kd2 kd3 kd4 kd5 kd6 ke0 ke1 ke2 ke3 ke4 ke5 kf0 kf1 kf2 kf3 kf4 kf5; obtain ⟨kc0, kc1, kc2, kc3, kc4, kc5, kc6⟩ := HK0.out _ BN.out; obtain ⟨kd0, kd1, kd2, kd3, kd4, kd5, kd6⟩ := HK1.out _ BN.out; obtain ⟨ke0, ke1, ke2, ke3, ke4, ke5⟩ := HK2.out _ BN.out; obtain ⟨kf0, kf1, kf2, kf3, kf4, kf5⟩ := HK3.out _ BN.out)
    | (go_at_call 10; (with_reducible refine (HAW.out _).mono ?_); rintro e wx ⟨rfl, h⟩; replace BN : Hid (Below W.heap.size W wx) := Lib.hid (BN.out.trans (h.mono BN.out.size)); clear h kc0 kc1 kc2 kc3 kc4 kc5 kc6 kd0 kd1 kd2 kd3 kd4 kd5 kd6 ke0 ke1 ke2 ke3 ke4 ke5 kf0 kf1 kf2 kf3 kf4 kf5; obtain ⟨kc0, kc1, kc2, kc3, kc4, kc5, kc6⟩ := HK0.out _ BN.out; obtain ⟨kd0, kd1, kd2, kd3, kd4, kd5, kd6⟩ := HK1.out _ BN.out; obtain ⟨ke0, ke1, ke2, ke3, ke4, ke5⟩ := HK2.out _ BN.out; obtain ⟨kf0, kf1, kf2, kf3, kf4, kf5⟩ := HK3.out _ BN.out))
  go_ret
  exact ⟨rfl, HB0.out.trans (BN.out.mono HB0.out.size)⟩
set_option maxHeartbeats 1000000 in
theorem apart_EQFF (X1 X2 Y1 Y2 : ByteArray) (o1 : Int) (s1 t1 : ByteArray) (a1 b1 c1 n1 : Int) (o2 : Int) (s2 t2 : ByteArray) (a2 b2 c2 n2 : Int) (o3 : Int) (s3 : ByteArray) (a3 b3 c3 n3 : Int) (o4 : Int) (s4 : ByteArray) (a4 b4 c4 n4 : Int) (w : World)
    (h1 : ∀ W, Calls Try.prog 11 #[.agg #[.int .i64 o1, .string s1, .string t1, .int .i64 a1, .int .i64 b1, .int .i64 c1, .int .i64 n1]] W (RetBelow (.tuple #[.string X1, .int .i64 0]) W))
    (h3 : ∀ W, Calls Try.prog 21 #[.agg #[.int .i64 o3, .string s3, .int .i64 a3, .int .i64 b3, .int .i64 c3, .int .i64 n3]] W (RetBelow (.tuple #[.string ⟨#[]⟩, .int .i64 4]) W))
    (h4 : ∀ W, Calls Try.prog 21 #[.agg #[.int .i64 o4, .string s4, .int .i64 a4, .int .i64 b4, .int .i64 c4, .int .i64 n4]] W (RetBelow (.tuple #[.string ⟨#[]⟩, .int .i64 4]) W)) :
    Calls Try.prog 7 #[.agg #[.int .i64 o1, .string s1, .string t1, .int .i64 a1, .int .i64 b1, .int .i64 c1, .int .i64 n1], .agg #[.int .i64 o1, .string s1, .string t1, .int .i64 a1, .int .i64 b1, .int .i64 c1, .int .i64 n1], .agg #[.int .i64 o3, .string s3, .int .i64 a3, .int .i64 b3, .int .i64 c3, .int .i64 n3], .agg #[.int .i64 o4, .string s4, .int .i64 a4, .int .i64 b4, .int .i64 c4, .int .i64 n4]] w (RetBelow (.bool true) w) := by
  have H1 := Lib.hid h1
  have H3 := Lib.hid h3
  have H4 := Lib.hid h4
  have HAW := Lib.hid awakeC_any
  clear h1 h3 h4
  have q1 : ∀ V : World, (binOp .eql 25 (.agg #[.int .i64 o1, .string s1, .string t1, .int .i64 a1, .int .i64 b1, .int .i64 c1, .int .i64 n1]) (.agg #[.int .i64 o1, .string s1, .string t1, .int .i64 a1, .int .i64 b1, .int .i64 c1, .int .i64 n1])).run Try.prog V = .ok (.bool true) V := fun V => by rw [eq25v, eqC_self]
  obtain ⟨W, hW⟩ : ∃ W, (((w.alloc (.cells #[.int .i64 o1, .string s1, .string t1, .int .i64 a1, .int .i64 b1, .int .i64 c1, .int .i64 n1] 25)).alloc (.cells #[.int .i64 o1, .string s1, .string t1, .int .i64 a1, .int .i64 b1, .int .i64 c1, .int .i64 n1] 25)).alloc (.cells #[.int .i64 o3, .string s3, .int .i64 a3, .int .i64 b3, .int .i64 c3, .int .i64 n3] 34)).alloc (.cells #[.int .i64 o4, .string s4, .int .i64 a4, .int .i64 b4, .int .i64 c4, .int .i64 n4] 34) = W := ⟨_, rfl⟩
  have g0 : W.heap[w.heap.size]? = some (cRowV o1 s1 t1 a1 b1 c1 n1) := by rw [← hW]; exact keepAlloc _ (keepAlloc _ (keepAlloc _ (heap_alloc_new w _)))
  have g1 : W.heap[w.heap.size + 1]? = some (cRowV o1 s1 t1 a1 b1 c1 n1) := by rw [← hW]; exact keepAlloc _ (keepAlloc _ (by rw [show w.heap.size + 1 = (w.alloc (.cells #[.int .i64 o1, .string s1, .string t1, .int .i64 a1, .int .i64 b1, .int .i64 c1, .int .i64 n1] 25)).heap.size from by simp]; exact heap_alloc_new _ _))
  have g2 : W.heap[w.heap.size + 1 + 1]? = some (rRowV o3 s3 a3 b3 c3 n3) := by rw [← hW]; exact keepAlloc _ (by rw [show w.heap.size + 1 + 1 = ((w.alloc (.cells #[.int .i64 o1, .string s1, .string t1, .int .i64 a1, .int .i64 b1, .int .i64 c1, .int .i64 n1] 25)).alloc (.cells #[.int .i64 o1, .string s1, .string t1, .int .i64 a1, .int .i64 b1, .int .i64 c1, .int .i64 n1] 25)).heap.size from by simp]; exact heap_alloc_new _ _)
  have g3 : W.heap[w.heap.size + 1 + 1 + 1]? = some (rRowV o4 s4 a4 b4 c4 n4) := by rw [← hW]; rw [show w.heap.size + 1 + 1 + 1 = (((w.alloc (.cells #[.int .i64 o1, .string s1, .string t1, .int .i64 a1, .int .i64 b1, .int .i64 c1, .int .i64 n1] 25)).alloc (.cells #[.int .i64 o1, .string s1, .string t1, .int .i64 a1, .int .i64 b1, .int .i64 c1, .int .i64 n1] 25)).alloc (.cells #[.int .i64 o3, .string s3, .int .i64 a3, .int .i64 b3, .int .i64 c3, .int .i64 n3] 34)).heap.size from by simp]; exact heap_alloc_new _ _
  have hz : W.heap.size = w.heap.size + 4 := by rw [← hW]; simp
  have HB0 : Hid (Below w.heap.size w W) := Lib.hid (by rw [← hW]; exact ((((Below.refl _ _).alloc (Nat.le_refl _) _).alloc (by simp) _).alloc (by simp; omega) _).alloc (by simp; omega) _)
  have HK0 := Lib.hid (fun V (h : Below W.heap.size W V) => cat_of g0 (by omega) h)
  have HK1 := Lib.hid (fun V (h : Below W.heap.size W V) => cat_of g1 (by omega) h)
  have HK2 := Lib.hid (fun V (h : Below W.heap.size W V) => rat_of g2 (by omega) h)
  have HK3 := Lib.hid (fun V (h : Below W.heap.size W V) => rat_of g3 (by omega) h)
  have HW := Lib.hid hW
  clear hW g0 g1 g2 g3 hz
  have BN := Lib.hid (Below.refl W.heap.size W)
  obtain ⟨kc0, kc1, kc2, kc3, kc4, kc5, kc6⟩ := HK0.out _ BN.out; obtain ⟨kd0, kd1, kd2, kd3, kd4, kd5, kd6⟩ := HK1.out _ BN.out; obtain ⟨ke0, ke1, ke2, ke3, ke4, ke5⟩ := HK2.out _ BN.out; obtain ⟨kf0, kf1, kf2, kf3, kf4, kf5⟩ := HK3.out _ BN.out
  go_enter Try.func7, Try.ntmps7
  go_wp2_with fail
  rw [HW.out]
  go_wp2_with (first
    | (go_at_call 11; (with_reducible refine (H1.out _).mono ?_); rintro e wx ⟨rfl, h⟩; replace BN : Hid (Below W.heap.size W wx) := Lib.hid (BN.out.trans (h.mono BN.out.size)); clear h kc0 kc1 kc2 kc3 kc4 kc5 kc6 kd0 kd1 kd2 kd3 kd4 kd5 kd6 ke0 ke1 ke2 ke3 ke4 ke5 kf0 kf1 kf2 kf3 kf4 kf5; obtain ⟨kc0, kc1, kc2, kc3, kc4, kc5, kc6⟩ := HK0.out _ BN.out; obtain ⟨kd0, kd1, kd2, kd3, kd4, kd5, kd6⟩ := HK1.out _ BN.out; obtain ⟨ke0, ke1, ke2, ke3, ke4, ke5⟩ := HK2.out _ BN.out; obtain ⟨kf0, kf1, kf2, kf3, kf4, kf5⟩ := HK3.out _ BN.out)
    | (go_at_call 21; (with_reducible refine (H3.out _).mono ?_); rintro e wx ⟨rfl, h⟩; replace BN : Hid (Below W.heap.size W wx) := Lib.hid (BN.out.trans (h.mono BN.out.size)); clear h kc0 kc1 kc2 kc3 kc4 kc5 kc6 kd0 kd1 kd2 kd3 kd4 kd5 kd6 ke0 ke1 ke2 ke3 ke4 ke5 kf0 kf1 kf2 kf3 kf4 kf5; obtain ⟨kc0, kc1, kc2, kc3, kc4, kc5, kc6⟩ := HK0.out _ BN.out; obtain ⟨kd0, kd1, kd2, kd3, kd4, kd5, kd6⟩ := HK1.out _ BN.out; obtain ⟨ke0, ke1, ke2, ke3, ke4, ke5⟩ := HK2.out _ BN.out; obtain ⟨kf0, kf1, kf2, kf3, kf4, kf5⟩ := HK3.out _ BN.out)
    | (go_at_call 21; (with_reducible refine (H4.out _).mono ?_); rintro e wx ⟨rfl, h⟩; replace BN : Hid (Below W.heap.size W wx) := Lib.hid (BN.out.trans (h.mono BN.out.size)); clear h kc0 kc1 kc2 kc3 kc4 kc5 kc6 kd0 kd1 kd2 kd3 kd4 kd5 kd6 ke0 ke1 ke2 ke3 ke4 ke5 kf0 kf1 kf2 kf3 kf4 kf5; obtain ⟨kc0, kc1, kc2, kc3, kc4, kc5, kc6⟩ := HK0.out _ BN.out; obtain ⟨kd0, kd1, kd2, kd3, kd4, kd5, kd6⟩ := HK1.out _ BN.out; obtain ⟨ke0, ke1, ke2, ke3, ke4, ke5⟩ := HK2.out _ BN.out; obtain ⟨kf0, kf1, kf2, kf3, kf4, kf5⟩ := HK3.out _ BN.out)
    | (go_at_call 10; (with_reducible refine (HAW.out _).mono ?_); rintro e wx ⟨rfl, h⟩; replace BN : Hid (Below W.heap.size W wx) := Lib.hid (BN.out.trans (h.mono BN.out.size)); clear h kc0 kc1 kc2 kc3 kc4 kc5 kc6 kd0 kd1 kd2 kd3 kd4 kd5 kd6 ke0 ke1 ke2 ke3 ke4 ke5 kf0 kf1 kf2 kf3 kf4 kf5; obtain ⟨kc0, kc1, kc2, kc3, kc4, kc5, kc6⟩ := HK0.out _ BN.out; obtain ⟨kd0, kd1, kd2, kd3, kd4, kd5, kd6⟩ := HK1.out _ BN.out; obtain ⟨ke0, ke1, ke2, ke3, ke4, ke5⟩ := HK2.out _ BN.out; obtain ⟨kf0, kf1, kf2, kf3, kf4, kf5⟩ := HK3.out _ BN.out))
  go_ret
  exact ⟨rfl, HB0.out.trans (BN.out.mono HB0.out.size)⟩
set_option maxHeartbeats 1000000 in
theorem apart_EQFT (X1 X2 Y1 Y2 : ByteArray) (o1 : Int) (s1 t1 : ByteArray) (a1 b1 c1 n1 : Int) (o2 : Int) (s2 t2 : ByteArray) (a2 b2 c2 n2 : Int) (o3 : Int) (s3 : ByteArray) (a3 b3 c3 n3 : Int) (o4 : Int) (s4 : ByteArray) (a4 b4 c4 n4 : Int) (w : World)
    (h1 : ∀ W, Calls Try.prog 11 #[.agg #[.int .i64 o1, .string s1, .string t1, .int .i64 a1, .int .i64 b1, .int .i64 c1, .int .i64 n1]] W (RetBelow (.tuple #[.string X1, .int .i64 0]) W))
    (h3 : ∀ W, Calls Try.prog 21 #[.agg #[.int .i64 o3, .string s3, .int .i64 a3, .int .i64 b3, .int .i64 c3, .int .i64 n3]] W (RetBelow (.tuple #[.string ⟨#[]⟩, .int .i64 4]) W))
    (h4 : ∀ W, Calls Try.prog 21 #[.agg #[.int .i64 o4, .string s4, .int .i64 a4, .int .i64 b4, .int .i64 c4, .int .i64 n4]] W (RetBelow (.tuple #[.string Y2, .int .i64 0]) W)) :
    Calls Try.prog 7 #[.agg #[.int .i64 o1, .string s1, .string t1, .int .i64 a1, .int .i64 b1, .int .i64 c1, .int .i64 n1], .agg #[.int .i64 o1, .string s1, .string t1, .int .i64 a1, .int .i64 b1, .int .i64 c1, .int .i64 n1], .agg #[.int .i64 o3, .string s3, .int .i64 a3, .int .i64 b3, .int .i64 c3, .int .i64 n3], .agg #[.int .i64 o4, .string s4, .int .i64 a4, .int .i64 b4, .int .i64 c4, .int .i64 n4]] w (RetBelow (.bool true) w) := by
  have H1 := Lib.hid h1
  have H3 := Lib.hid h3
  have H4 := Lib.hid h4
  have HAW := Lib.hid awakeC_any
  clear h1 h3 h4
  have q1 : ∀ V : World, (binOp .eql 25 (.agg #[.int .i64 o1, .string s1, .string t1, .int .i64 a1, .int .i64 b1, .int .i64 c1, .int .i64 n1]) (.agg #[.int .i64 o1, .string s1, .string t1, .int .i64 a1, .int .i64 b1, .int .i64 c1, .int .i64 n1])).run Try.prog V = .ok (.bool true) V := fun V => by rw [eq25v, eqC_self]
  obtain ⟨W, hW⟩ : ∃ W, (((w.alloc (.cells #[.int .i64 o1, .string s1, .string t1, .int .i64 a1, .int .i64 b1, .int .i64 c1, .int .i64 n1] 25)).alloc (.cells #[.int .i64 o1, .string s1, .string t1, .int .i64 a1, .int .i64 b1, .int .i64 c1, .int .i64 n1] 25)).alloc (.cells #[.int .i64 o3, .string s3, .int .i64 a3, .int .i64 b3, .int .i64 c3, .int .i64 n3] 34)).alloc (.cells #[.int .i64 o4, .string s4, .int .i64 a4, .int .i64 b4, .int .i64 c4, .int .i64 n4] 34) = W := ⟨_, rfl⟩
  have g0 : W.heap[w.heap.size]? = some (cRowV o1 s1 t1 a1 b1 c1 n1) := by rw [← hW]; exact keepAlloc _ (keepAlloc _ (keepAlloc _ (heap_alloc_new w _)))
  have g1 : W.heap[w.heap.size + 1]? = some (cRowV o1 s1 t1 a1 b1 c1 n1) := by rw [← hW]; exact keepAlloc _ (keepAlloc _ (by rw [show w.heap.size + 1 = (w.alloc (.cells #[.int .i64 o1, .string s1, .string t1, .int .i64 a1, .int .i64 b1, .int .i64 c1, .int .i64 n1] 25)).heap.size from by simp]; exact heap_alloc_new _ _))
  have g2 : W.heap[w.heap.size + 1 + 1]? = some (rRowV o3 s3 a3 b3 c3 n3) := by rw [← hW]; exact keepAlloc _ (by rw [show w.heap.size + 1 + 1 = ((w.alloc (.cells #[.int .i64 o1, .string s1, .string t1, .int .i64 a1, .int .i64 b1, .int .i64 c1, .int .i64 n1] 25)).alloc (.cells #[.int .i64 o1, .string s1, .string t1, .int .i64 a1, .int .i64 b1, .int .i64 c1, .int .i64 n1] 25)).heap.size from by simp]; exact heap_alloc_new _ _)
  have g3 : W.heap[w.heap.size + 1 + 1 + 1]? = some (rRowV o4 s4 a4 b4 c4 n4) := by rw [← hW]; rw [show w.heap.size + 1 + 1 + 1 = (((w.alloc (.cells #[.int .i64 o1, .string s1, .string t1, .int .i64 a1, .int .i64 b1, .int .i64 c1, .int .i64 n1] 25)).alloc (.cells #[.int .i64 o1, .string s1, .string t1, .int .i64 a1, .int .i64 b1, .int .i64 c1, .int .i64 n1] 25)).alloc (.cells #[.int .i64 o3, .string s3, .int .i64 a3, .int .i64 b3, .int .i64 c3, .int .i64 n3] 34)).heap.size from by simp]; exact heap_alloc_new _ _
  have hz : W.heap.size = w.heap.size + 4 := by rw [← hW]; simp
  have HB0 : Hid (Below w.heap.size w W) := Lib.hid (by rw [← hW]; exact ((((Below.refl _ _).alloc (Nat.le_refl _) _).alloc (by simp) _).alloc (by simp; omega) _).alloc (by simp; omega) _)
  have HK0 := Lib.hid (fun V (h : Below W.heap.size W V) => cat_of g0 (by omega) h)
  have HK1 := Lib.hid (fun V (h : Below W.heap.size W V) => cat_of g1 (by omega) h)
  have HK2 := Lib.hid (fun V (h : Below W.heap.size W V) => rat_of g2 (by omega) h)
  have HK3 := Lib.hid (fun V (h : Below W.heap.size W V) => rat_of g3 (by omega) h)
  have HW := Lib.hid hW
  clear hW g0 g1 g2 g3 hz
  have BN := Lib.hid (Below.refl W.heap.size W)
  obtain ⟨kc0, kc1, kc2, kc3, kc4, kc5, kc6⟩ := HK0.out _ BN.out; obtain ⟨kd0, kd1, kd2, kd3, kd4, kd5, kd6⟩ := HK1.out _ BN.out; obtain ⟨ke0, ke1, ke2, ke3, ke4, ke5⟩ := HK2.out _ BN.out; obtain ⟨kf0, kf1, kf2, kf3, kf4, kf5⟩ := HK3.out _ BN.out
  go_enter Try.func7, Try.ntmps7
  go_wp2_with fail
  rw [HW.out]
  go_wp2_with (first
    | (go_at_call 11; (with_reducible refine (H1.out _).mono ?_); rintro e wx ⟨rfl, h⟩; replace BN : Hid (Below W.heap.size W wx) := Lib.hid (BN.out.trans (h.mono BN.out.size)); clear h kc0 kc1 kc2 kc3 kc4 kc5 kc6 kd0 kd1 kd2 kd3 kd4 kd5 kd6 ke0 ke1 ke2 ke3 ke4 ke5 kf0 kf1 kf2 kf3 kf4 kf5; obtain ⟨kc0, kc1, kc2, kc3, kc4, kc5, kc6⟩ := HK0.out _ BN.out; obtain ⟨kd0, kd1, kd2, kd3, kd4, kd5, kd6⟩ := HK1.out _ BN.out; obtain ⟨ke0, ke1, ke2, ke3, ke4, ke5⟩ := HK2.out _ BN.out; obtain ⟨kf0, kf1, kf2, kf3, kf4, kf5⟩ := HK3.out _ BN.out)
    | (go_at_call 21; (with_reducible refine (H3.out _).mono ?_); rintro e wx ⟨rfl, h⟩; replace BN : Hid (Below W.heap.size W wx) := Lib.hid (BN.out.trans (h.mono BN.out.size)); clear h kc0 kc1 kc2 kc3 kc4 kc5 kc6 kd0 kd1 kd2 kd3 kd4 kd5 kd6 ke0 ke1 ke2 ke3 ke4 ke5 kf0 kf1 kf2 kf3 kf4 kf5; obtain ⟨kc0, kc1, kc2, kc3, kc4, kc5, kc6⟩ := HK0.out _ BN.out; obtain ⟨kd0, kd1, kd2, kd3, kd4, kd5, kd6⟩ := HK1.out _ BN.out; obtain ⟨ke0, ke1, ke2, ke3, ke4, ke5⟩ := HK2.out _ BN.out; obtain ⟨kf0, kf1, kf2, kf3, kf4, kf5⟩ := HK3.out _ BN.out)
    | (go_at_call 21; (with_reducible refine (H4.out _).mono ?_); rintro e wx ⟨rfl, h⟩; replace BN : Hid (Below W.heap.size W wx) := Lib.hid (BN.out.trans (h.mono BN.out.size)); clear h kc0 kc1 kc2 kc3 kc4 kc5 kc6 kd0 kd1 kd2 kd3 kd4 kd5 kd6 ke0 ke1 ke2 ke3 ke4 ke5 kf0 kf1 kf2 kf3 kf4 kf5; obtain ⟨kc0, kc1, kc2, kc3, kc4, kc5, kc6⟩ := HK0.out _ BN.out; obtain ⟨kd0, kd1, kd2, kd3, kd4, kd5, kd6⟩ := HK1.out _ BN.out; obtain ⟨ke0, ke1, ke2, ke3, ke4, ke5⟩ := HK2.out _ BN.out; obtain ⟨kf0, kf1, kf2, kf3, kf4, kf5⟩ := HK3.out _ BN.out)
    | (go_at_call 10; (with_reducible refine (HAW.out _).mono ?_); rintro e wx ⟨rfl, h⟩; replace BN : Hid (Below W.heap.size W wx) := Lib.hid (BN.out.trans (h.mono BN.out.size)); clear h kc0 kc1 kc2 kc3 kc4 kc5 kc6 kd0 kd1 kd2 kd3 kd4 kd5 kd6 ke0 ke1 ke2 ke3 ke4 ke5 kf0 kf1 kf2 kf3 kf4 kf5; obtain ⟨kc0, kc1, kc2, kc3, kc4, kc5, kc6⟩ := HK0.out _ BN.out; obtain ⟨kd0, kd1, kd2, kd3, kd4, kd5, kd6⟩ := HK1.out _ BN.out; obtain ⟨ke0, ke1, ke2, ke3, ke4, ke5⟩ := HK2.out _ BN.out; obtain ⟨kf0, kf1, kf2, kf3, kf4, kf5⟩ := HK3.out _ BN.out))
  go_ret
  exact ⟨rfl, HB0.out.trans (BN.out.mono HB0.out.size)⟩
set_option maxHeartbeats 1000000 in
theorem apart_EQTF (X1 X2 Y1 Y2 : ByteArray) (o1 : Int) (s1 t1 : ByteArray) (a1 b1 c1 n1 : Int) (o2 : Int) (s2 t2 : ByteArray) (a2 b2 c2 n2 : Int) (o3 : Int) (s3 : ByteArray) (a3 b3 c3 n3 : Int) (o4 : Int) (s4 : ByteArray) (a4 b4 c4 n4 : Int) (w : World)
    (h1 : ∀ W, Calls Try.prog 11 #[.agg #[.int .i64 o1, .string s1, .string t1, .int .i64 a1, .int .i64 b1, .int .i64 c1, .int .i64 n1]] W (RetBelow (.tuple #[.string X1, .int .i64 0]) W))
    (h3 : ∀ W, Calls Try.prog 21 #[.agg #[.int .i64 o3, .string s3, .int .i64 a3, .int .i64 b3, .int .i64 c3, .int .i64 n3]] W (RetBelow (.tuple #[.string Y1, .int .i64 0]) W))
    (h4 : ∀ W, Calls Try.prog 21 #[.agg #[.int .i64 o4, .string s4, .int .i64 a4, .int .i64 b4, .int .i64 c4, .int .i64 n4]] W (RetBelow (.tuple #[.string ⟨#[]⟩, .int .i64 4]) W))
    (z1 : (X1.toList == Y1.toList) = false) :
    Calls Try.prog 7 #[.agg #[.int .i64 o1, .string s1, .string t1, .int .i64 a1, .int .i64 b1, .int .i64 c1, .int .i64 n1], .agg #[.int .i64 o1, .string s1, .string t1, .int .i64 a1, .int .i64 b1, .int .i64 c1, .int .i64 n1], .agg #[.int .i64 o3, .string s3, .int .i64 a3, .int .i64 b3, .int .i64 c3, .int .i64 n3], .agg #[.int .i64 o4, .string s4, .int .i64 a4, .int .i64 b4, .int .i64 c4, .int .i64 n4]] w (RetBelow (.bool true) w) := by
  have H1 := Lib.hid h1
  have H3 := Lib.hid h3
  have H4 := Lib.hid h4
  have HAW := Lib.hid awakeC_any
  clear h1 h3 h4
  have q1 : ∀ V : World, (binOp .eql 25 (.agg #[.int .i64 o1, .string s1, .string t1, .int .i64 a1, .int .i64 b1, .int .i64 c1, .int .i64 n1]) (.agg #[.int .i64 o1, .string s1, .string t1, .int .i64 a1, .int .i64 b1, .int .i64 c1, .int .i64 n1])).run Try.prog V = .ok (.bool true) V := fun V => by rw [eq25v, eqC_self]
  obtain ⟨W, hW⟩ : ∃ W, (((w.alloc (.cells #[.int .i64 o1, .string s1, .string t1, .int .i64 a1, .int .i64 b1, .int .i64 c1, .int .i64 n1] 25)).alloc (.cells #[.int .i64 o1, .string s1, .string t1, .int .i64 a1, .int .i64 b1, .int .i64 c1, .int .i64 n1] 25)).alloc (.cells #[.int .i64 o3, .string s3, .int .i64 a3, .int .i64 b3, .int .i64 c3, .int .i64 n3] 34)).alloc (.cells #[.int .i64 o4, .string s4, .int .i64 a4, .int .i64 b4, .int .i64 c4, .int .i64 n4] 34) = W := ⟨_, rfl⟩
  have g0 : W.heap[w.heap.size]? = some (cRowV o1 s1 t1 a1 b1 c1 n1) := by rw [← hW]; exact keepAlloc _ (keepAlloc _ (keepAlloc _ (heap_alloc_new w _)))
  have g1 : W.heap[w.heap.size + 1]? = some (cRowV o1 s1 t1 a1 b1 c1 n1) := by rw [← hW]; exact keepAlloc _ (keepAlloc _ (by rw [show w.heap.size + 1 = (w.alloc (.cells #[.int .i64 o1, .string s1, .string t1, .int .i64 a1, .int .i64 b1, .int .i64 c1, .int .i64 n1] 25)).heap.size from by simp]; exact heap_alloc_new _ _))
  have g2 : W.heap[w.heap.size + 1 + 1]? = some (rRowV o3 s3 a3 b3 c3 n3) := by rw [← hW]; exact keepAlloc _ (by rw [show w.heap.size + 1 + 1 = ((w.alloc (.cells #[.int .i64 o1, .string s1, .string t1, .int .i64 a1, .int .i64 b1, .int .i64 c1, .int .i64 n1] 25)).alloc (.cells #[.int .i64 o1, .string s1, .string t1, .int .i64 a1, .int .i64 b1, .int .i64 c1, .int .i64 n1] 25)).heap.size from by simp]; exact heap_alloc_new _ _)
  have g3 : W.heap[w.heap.size + 1 + 1 + 1]? = some (rRowV o4 s4 a4 b4 c4 n4) := by rw [← hW]; rw [show w.heap.size + 1 + 1 + 1 = (((w.alloc (.cells #[.int .i64 o1, .string s1, .string t1, .int .i64 a1, .int .i64 b1, .int .i64 c1, .int .i64 n1] 25)).alloc (.cells #[.int .i64 o1, .string s1, .string t1, .int .i64 a1, .int .i64 b1, .int .i64 c1, .int .i64 n1] 25)).alloc (.cells #[.int .i64 o3, .string s3, .int .i64 a3, .int .i64 b3, .int .i64 c3, .int .i64 n3] 34)).heap.size from by simp]; exact heap_alloc_new _ _
  have hz : W.heap.size = w.heap.size + 4 := by rw [← hW]; simp
  have HB0 : Hid (Below w.heap.size w W) := Lib.hid (by rw [← hW]; exact ((((Below.refl _ _).alloc (Nat.le_refl _) _).alloc (by simp) _).alloc (by simp; omega) _).alloc (by simp; omega) _)
  have HK0 := Lib.hid (fun V (h : Below W.heap.size W V) => cat_of g0 (by omega) h)
  have HK1 := Lib.hid (fun V (h : Below W.heap.size W V) => cat_of g1 (by omega) h)
  have HK2 := Lib.hid (fun V (h : Below W.heap.size W V) => rat_of g2 (by omega) h)
  have HK3 := Lib.hid (fun V (h : Below W.heap.size W V) => rat_of g3 (by omega) h)
  have HW := Lib.hid hW
  clear hW g0 g1 g2 g3 hz
  have BN := Lib.hid (Below.refl W.heap.size W)
  obtain ⟨kc0, kc1, kc2, kc3, kc4, kc5, kc6⟩ := HK0.out _ BN.out; obtain ⟨kd0, kd1, kd2, kd3, kd4, kd5, kd6⟩ := HK1.out _ BN.out; obtain ⟨ke0, ke1, ke2, ke3, ke4, ke5⟩ := HK2.out _ BN.out; obtain ⟨kf0, kf1, kf2, kf3, kf4, kf5⟩ := HK3.out _ BN.out
  go_enter Try.func7, Try.ntmps7
  go_wp2_with fail
  rw [HW.out]
  go_wp2_with (first
    | (go_at_call 11; (with_reducible refine (H1.out _).mono ?_); rintro e wx ⟨rfl, h⟩; replace BN : Hid (Below W.heap.size W wx) := Lib.hid (BN.out.trans (h.mono BN.out.size)); clear h kc0 kc1 kc2 kc3 kc4 kc5 kc6 kd0 kd1 kd2 kd3 kd4 kd5 kd6 ke0 ke1 ke2 ke3 ke4 ke5 kf0 kf1 kf2 kf3 kf4 kf5; obtain ⟨kc0, kc1, kc2, kc3, kc4, kc5, kc6⟩ := HK0.out _ BN.out; obtain ⟨kd0, kd1, kd2, kd3, kd4, kd5, kd6⟩ := HK1.out _ BN.out; obtain ⟨ke0, ke1, ke2, ke3, ke4, ke5⟩ := HK2.out _ BN.out; obtain ⟨kf0, kf1, kf2, kf3, kf4, kf5⟩ := HK3.out _ BN.out)
    | (go_at_call 21; (with_reducible refine (H3.out _).mono ?_); rintro e wx ⟨rfl, h⟩; replace BN : Hid (Below W.heap.size W wx) := Lib.hid (BN.out.trans (h.mono BN.out.size)); clear h kc0 kc1 kc2 kc3 kc4 kc5 kc6 kd0 kd1 kd2 kd3 kd4 kd5 kd6 ke0 ke1 ke2 ke3 ke4 ke5 kf0 kf1 kf2 kf3 kf4 kf5; obtain ⟨kc0, kc1, kc2, kc3, kc4, kc5, kc6⟩ := HK0.out _ BN.out; obtain ⟨kd0, kd1, kd2, kd3, kd4, kd5, kd6⟩ := HK1.out _ BN.out; obtain ⟨ke0, ke1, ke2, ke3, ke4, ke5⟩ := HK2.out _ BN.out; obtain ⟨kf0, kf1, kf2, kf3, kf4, kf5⟩ := HK3.out _ BN.out)
    | (go_at_call 21; (with_reducible refine (H4.out _).mono ?_); rintro e wx ⟨rfl, h⟩; replace BN : Hid (Below W.heap.size W wx) := Lib.hid (BN.out.trans (h.mono BN.out.size)); clear h kc0 kc1 kc2 kc3 kc4 kc5 kc6 kd0 kd1 kd2 kd3 kd4 kd5 kd6 ke0 ke1 ke2 ke3 ke4 ke5 kf0 kf1 kf2 kf3 kf4 kf5; obtain ⟨kc0, kc1, kc2, kc3, kc4, kc5, kc6⟩ := HK0.out _ BN.out; obtain ⟨kd0, kd1, kd2, kd3, kd4, kd5, kd6⟩ := HK1.out _ BN.out; obtain ⟨ke0, ke1, ke2, ke3, ke4, ke5⟩ := HK2.out _ BN.out; obtain ⟨kf0, kf1, kf2, kf3, kf4, kf5⟩ := HK3.out _ BN.out)
    | (go_at_call 10; (with_reducible refine (HAW.out _).mono ?_); rintro e wx ⟨rfl, h⟩; replace BN : Hid (Below W.heap.size W wx) := Lib.hid (BN.out.trans (h.mono BN.out.size)); clear h kc0 kc1 kc2 kc3 kc4 kc5 kc6 kd0 kd1 kd2 kd3 kd4 kd5 kd6 ke0 ke1 ke2 ke3 ke4 ke5 kf0 kf1 kf2 kf3 kf4 kf5; obtain ⟨kc0, kc1, kc2, kc3, kc4, kc5, kc6⟩ := HK0.out _ BN.out; obtain ⟨kd0, kd1, kd2, kd3, kd4, kd5, kd6⟩ := HK1.out _ BN.out; obtain ⟨ke0, ke1, ke2, ke3, ke4, ke5⟩ := HK2.out _ BN.out; obtain ⟨kf0, kf1, kf2, kf3, kf4, kf5⟩ := HK3.out _ BN.out))
  go_ret
  exact ⟨rfl, HB0.out.trans (BN.out.mono HB0.out.size)⟩
set_option maxHeartbeats 1000000 in
theorem apart_EQEQ (X1 X2 Y1 Y2 : ByteArray) (o1 : Int) (s1 t1 : ByteArray) (a1 b1 c1 n1 : Int) (o2 : Int) (s2 t2 : ByteArray) (a2 b2 c2 n2 : Int) (o3 : Int) (s3 : ByteArray) (a3 b3 c3 n3 : Int) (o4 : Int) (s4 : ByteArray) (a4 b4 c4 n4 : Int) (w : World)
    (h1 : ∀ W, Calls Try.prog 11 #[.agg #[.int .i64 o1, .string s1, .string t1, .int .i64 a1, .int .i64 b1, .int .i64 c1, .int .i64 n1]] W (RetBelow (.tuple #[.string X1, .int .i64 0]) W))
    (h3 : ∀ W, Calls Try.prog 21 #[.agg #[.int .i64 o3, .string s3, .int .i64 a3, .int .i64 b3, .int .i64 c3, .int .i64 n3]] W (RetBelow (.tuple #[.string Y1, .int .i64 0]) W))
    (z1 : (X1.toList == Y1.toList) = false) :
    Calls Try.prog 7 #[.agg #[.int .i64 o1, .string s1, .string t1, .int .i64 a1, .int .i64 b1, .int .i64 c1, .int .i64 n1], .agg #[.int .i64 o1, .string s1, .string t1, .int .i64 a1, .int .i64 b1, .int .i64 c1, .int .i64 n1], .agg #[.int .i64 o3, .string s3, .int .i64 a3, .int .i64 b3, .int .i64 c3, .int .i64 n3], .agg #[.int .i64 o3, .string s3, .int .i64 a3, .int .i64 b3, .int .i64 c3, .int .i64 n3]] w (RetBelow (.bool true) w) := by
  have H1 := Lib.hid h1
  have H3 := Lib.hid h3
  have HAW := Lib.hid awakeC_any
  clear h1 h3
  have q1 : ∀ V : World, (binOp .eql 25 (.agg #[.int .i64 o1, .string s1, .string t1, .int .i64 a1, .int .i64 b1, .int .i64 c1, .int .i64 n1]) (.agg #[.int .i64 o1, .string s1, .string t1, .int .i64 a1, .int .i64 b1, .int .i64 c1, .int .i64 n1])).run Try.prog V = .ok (.bool true) V := fun V => by rw [eq25v, eqC_self]
  have q2 : ∀ V : World, (binOp .eql 34 (.agg #[.int .i64 o3, .string s3, .int .i64 a3, .int .i64 b3, .int .i64 c3, .int .i64 n3]) (.agg #[.int .i64 o3, .string s3, .int .i64 a3, .int .i64 b3, .int .i64 c3, .int .i64 n3])).run Try.prog V = .ok (.bool true) V := fun V => by rw [eq34v, eqR_self]
  obtain ⟨W, hW⟩ : ∃ W, (((w.alloc (.cells #[.int .i64 o1, .string s1, .string t1, .int .i64 a1, .int .i64 b1, .int .i64 c1, .int .i64 n1] 25)).alloc (.cells #[.int .i64 o1, .string s1, .string t1, .int .i64 a1, .int .i64 b1, .int .i64 c1, .int .i64 n1] 25)).alloc (.cells #[.int .i64 o3, .string s3, .int .i64 a3, .int .i64 b3, .int .i64 c3, .int .i64 n3] 34)).alloc (.cells #[.int .i64 o3, .string s3, .int .i64 a3, .int .i64 b3, .int .i64 c3, .int .i64 n3] 34) = W := ⟨_, rfl⟩
  have g0 : W.heap[w.heap.size]? = some (cRowV o1 s1 t1 a1 b1 c1 n1) := by rw [← hW]; exact keepAlloc _ (keepAlloc _ (keepAlloc _ (heap_alloc_new w _)))
  have g1 : W.heap[w.heap.size + 1]? = some (cRowV o1 s1 t1 a1 b1 c1 n1) := by rw [← hW]; exact keepAlloc _ (keepAlloc _ (by rw [show w.heap.size + 1 = (w.alloc (.cells #[.int .i64 o1, .string s1, .string t1, .int .i64 a1, .int .i64 b1, .int .i64 c1, .int .i64 n1] 25)).heap.size from by simp]; exact heap_alloc_new _ _))
  have g2 : W.heap[w.heap.size + 1 + 1]? = some (rRowV o3 s3 a3 b3 c3 n3) := by rw [← hW]; exact keepAlloc _ (by rw [show w.heap.size + 1 + 1 = ((w.alloc (.cells #[.int .i64 o1, .string s1, .string t1, .int .i64 a1, .int .i64 b1, .int .i64 c1, .int .i64 n1] 25)).alloc (.cells #[.int .i64 o1, .string s1, .string t1, .int .i64 a1, .int .i64 b1, .int .i64 c1, .int .i64 n1] 25)).heap.size from by simp]; exact heap_alloc_new _ _)
  have g3 : W.heap[w.heap.size + 1 + 1 + 1]? = some (rRowV o3 s3 a3 b3 c3 n3) := by rw [← hW]; rw [show w.heap.size + 1 + 1 + 1 = (((w.alloc (.cells #[.int .i64 o1, .string s1, .string t1, .int .i64 a1, .int .i64 b1, .int .i64 c1, .int .i64 n1] 25)).alloc (.cells #[.int .i64 o1, .string s1, .string t1, .int .i64 a1, .int .i64 b1, .int .i64 c1, .int .i64 n1] 25)).alloc (.cells #[.int .i64 o3, .string s3, .int .i64 a3, .int .i64 b3, .int .i64 c3, .int .i64 n3] 34)).heap.size from by simp]; exact heap_alloc_new _ _
  have hz : W.heap.size = w.heap.size + 4 := by rw [← hW]; simp
  have HB0 : Hid (Below w.heap.size w W) := Lib.hid (by rw [← hW]; exact ((((Below.refl _ _).alloc (Nat.le_refl _) _).alloc (by simp) _).alloc (by simp; omega) _).alloc (by simp; omega) _)
  have HK0 := Lib.hid (fun V (h : Below W.heap.size W V) => cat_of g0 (by omega) h)
  have HK1 := Lib.hid (fun V (h : Below W.heap.size W V) => cat_of g1 (by omega) h)
  have HK2 := Lib.hid (fun V (h : Below W.heap.size W V) => rat_of g2 (by omega) h)
  have HK3 := Lib.hid (fun V (h : Below W.heap.size W V) => rat_of g3 (by omega) h)
  have HW := Lib.hid hW
  clear hW g0 g1 g2 g3 hz
  have BN := Lib.hid (Below.refl W.heap.size W)
  obtain ⟨kc0, kc1, kc2, kc3, kc4, kc5, kc6⟩ := HK0.out _ BN.out; obtain ⟨kd0, kd1, kd2, kd3, kd4, kd5, kd6⟩ := HK1.out _ BN.out; obtain ⟨ke0, ke1, ke2, ke3, ke4, ke5⟩ := HK2.out _ BN.out; obtain ⟨kf0, kf1, kf2, kf3, kf4, kf5⟩ := HK3.out _ BN.out
  go_enter Try.func7, Try.ntmps7
  go_wp2_with fail
  rw [HW.out]
  go_wp2_with (first
    | (go_at_call 11; (with_reducible refine (H1.out _).mono ?_); rintro e wx ⟨rfl, h⟩; replace BN : Hid (Below W.heap.size W wx) := Lib.hid (BN.out.trans (h.mono BN.out.size)); clear h kc0 kc1 kc2 kc3 kc4 kc5 kc6 kd0 kd1 kd2 kd3 kd4 kd5 kd6 ke0 ke1 ke2 ke3 ke4 ke5 kf0 kf1 kf2 kf3 kf4 kf5; obtain ⟨kc0, kc1, kc2, kc3, kc4, kc5, kc6⟩ := HK0.out _ BN.out; obtain ⟨kd0, kd1, kd2, kd3, kd4, kd5, kd6⟩ := HK1.out _ BN.out; obtain ⟨ke0, ke1, ke2, ke3, ke4, ke5⟩ := HK2.out _ BN.out; obtain ⟨kf0, kf1, kf2, kf3, kf4, kf5⟩ := HK3.out _ BN.out)
    | (go_at_call 21; (with_reducible refine (H3.out _).mono ?_); rintro e wx ⟨rfl, h⟩; replace BN : Hid (Below W.heap.size W wx) := Lib.hid (BN.out.trans (h.mono BN.out.size)); clear h kc0 kc1 kc2 kc3 kc4 kc5 kc6 kd0 kd1 kd2 kd3 kd4 kd5 kd6 ke0 ke1 ke2 ke3 ke4 ke5 kf0 kf1 kf2 kf3 kf4 kf5; obtain ⟨kc0, kc1, kc2, kc3, kc4, kc5, kc6⟩ := HK0.out _ BN.out; obtain ⟨kd0, kd1, kd2, kd3, kd4, kd5, kd6⟩ := HK1.out _ BN.out; obtain ⟨ke0, ke1, ke2, ke3, ke4, ke5⟩ := HK2.out _ BN.out; obtain ⟨kf0, kf1, kf2, kf3, kf4, kf5⟩ := HK3.out _ BN.out)
    | (go_at_call 10; (with_reducible refine (HAW.out _).mono ?_); rintro e wx ⟨rfl, h⟩; replace BN : Hid (Below W.heap.size W wx) := Lib.hid (BN.out.trans (h.mono BN.out.size)); clear h kc0 kc1 kc2 kc3 kc4 kc5 kc6 kd0 kd1 kd2 kd3 kd4 kd5 kd6 ke0 ke1 ke2 ke3 ke4 ke5 kf0 kf1 kf2 kf3 kf4 kf5; obtain ⟨kc0, kc1, kc2, kc3, kc4, kc5, kc6⟩ := HK0.out _ BN.out; obtain ⟨kd0, kd1, kd2, kd3, kd4, kd5, kd6⟩ := HK1.out _ BN.out; obtain ⟨ke0, ke1, ke2, ke3, ke4, ke5⟩ := HK2.out _ BN.out; obtain ⟨kf0, kf1, kf2, kf3, kf4, kf5⟩ := HK3.out _ BN.out))
  go_ret
  exact ⟨rfl, HB0.out.trans (BN.out.mono HB0.out.size)⟩
set_option maxHeartbeats 1000000 in
theorem apart_EQNE (X1 X2 Y1 Y2 : ByteArray) (o1 : Int) (s1 t1 : ByteArray) (a1 b1 c1 n1 : Int) (o2 : Int) (s2 t2 : ByteArray) (a2 b2 c2 n2 : Int) (o3 : Int) (s3 : ByteArray) (a3 b3 c3 n3 : Int) (o4 : Int) (s4 : ByteArray) (a4 b4 c4 n4 : Int) (w : World)
    (h1 : ∀ W, Calls Try.prog 11 #[.agg #[.int .i64 o1, .string s1, .string t1, .int .i64 a1, .int .i64 b1, .int .i64 c1, .int .i64 n1]] W (RetBelow (.tuple #[.string X1, .int .i64 0]) W))
    (h3 : ∀ W, Calls Try.prog 21 #[.agg #[.int .i64 o3, .string s3, .int .i64 a3, .int .i64 b3, .int .i64 c3, .int .i64 n3]] W (RetBelow (.tuple #[.string Y1, .int .i64 0]) W))
    (h4 : ∀ W, Calls Try.prog 21 #[.agg #[.int .i64 o4, .string s4, .int .i64 a4, .int .i64 b4, .int .i64 c4, .int .i64 n4]] W (RetBelow (.tuple #[.string Y2, .int .i64 0]) W))
    (y1 : (Y1.toList == Y2.toList) = false)
    (y2 : eqR o3 s3 a3 b3 c3 n3 o4 s4 a4 b4 c4 n4 = false)
    (z1 : (X1.toList == Y1.toList) = false) :
    Calls Try.prog 7 #[.agg #[.int .i64 o1, .string s1, .string t1, .int .i64 a1, .int .i64 b1, .int .i64 c1, .int .i64 n1], .agg #[.int .i64 o1, .string s1, .string t1, .int .i64 a1, .int .i64 b1, .int .i64 c1, .int .i64 n1], .agg #[.int .i64 o3, .string s3, .int .i64 a3, .int .i64 b3, .int .i64 c3, .int .i64 n3], .agg #[.int .i64 o4, .string s4, .int .i64 a4, .int .i64 b4, .int .i64 c4, .int .i64 n4]] w (RetBelow (.bool true) w) := by
  have H1 := Lib.hid h1
  have H3 := Lib.hid h3
  have H4 := Lib.hid h4
  have HAW := Lib.hid awakeC_any
  clear h1 h3 h4
  have q1 : ∀ V : World, (binOp .eql 25 (.agg #[.int .i64 o1, .string s1, .string t1, .int .i64 a1, .int .i64 b1, .int .i64 c1, .int .i64 n1]) (.agg #[.int .i64 o1, .string s1, .string t1, .int .i64 a1, .int .i64 b1, .int .i64 c1, .int .i64 n1])).run Try.prog V = .ok (.bool true) V := fun V => by rw [eq25v, eqC_self]
  have q2 : ∀ V : World, (binOp .eql 34 (.agg #[.int .i64 o3, .string s3, .int .i64 a3, .int .i64 b3, .int .i64 c3, .int .i64 n3]) (.agg #[.int .i64 o4, .string s4, .int .i64 a4, .int .i64 b4, .int .i64 c4, .int .i64 n4])).run Try.prog V = .ok (.bool false) V := fun V => by rw [eq34v, y2]
  clear y2
  obtain ⟨W, hW⟩ : ∃ W, (((w.alloc (.cells #[.int .i64 o1, .string s1, .string t1, .int .i64 a1, .int .i64 b1, .int .i64 c1, .int .i64 n1] 25)).alloc (.cells #[.int .i64 o1, .string s1, .string t1, .int .i64 a1, .int .i64 b1, .int .i64 c1, .int .i64 n1] 25)).alloc (.cells #[.int .i64 o3, .string s3, .int .i64 a3, .int .i64 b3, .int .i64 c3, .int .i64 n3] 34)).alloc (.cells #[.int .i64 o4, .string s4, .int .i64 a4, .int .i64 b4, .int .i64 c4, .int .i64 n4] 34) = W := ⟨_, rfl⟩
  have g0 : W.heap[w.heap.size]? = some (cRowV o1 s1 t1 a1 b1 c1 n1) := by rw [← hW]; exact keepAlloc _ (keepAlloc _ (keepAlloc _ (heap_alloc_new w _)))
  have g1 : W.heap[w.heap.size + 1]? = some (cRowV o1 s1 t1 a1 b1 c1 n1) := by rw [← hW]; exact keepAlloc _ (keepAlloc _ (by rw [show w.heap.size + 1 = (w.alloc (.cells #[.int .i64 o1, .string s1, .string t1, .int .i64 a1, .int .i64 b1, .int .i64 c1, .int .i64 n1] 25)).heap.size from by simp]; exact heap_alloc_new _ _))
  have g2 : W.heap[w.heap.size + 1 + 1]? = some (rRowV o3 s3 a3 b3 c3 n3) := by rw [← hW]; exact keepAlloc _ (by rw [show w.heap.size + 1 + 1 = ((w.alloc (.cells #[.int .i64 o1, .string s1, .string t1, .int .i64 a1, .int .i64 b1, .int .i64 c1, .int .i64 n1] 25)).alloc (.cells #[.int .i64 o1, .string s1, .string t1, .int .i64 a1, .int .i64 b1, .int .i64 c1, .int .i64 n1] 25)).heap.size from by simp]; exact heap_alloc_new _ _)
  have g3 : W.heap[w.heap.size + 1 + 1 + 1]? = some (rRowV o4 s4 a4 b4 c4 n4) := by rw [← hW]; rw [show w.heap.size + 1 + 1 + 1 = (((w.alloc (.cells #[.int .i64 o1, .string s1, .string t1, .int .i64 a1, .int .i64 b1, .int .i64 c1, .int .i64 n1] 25)).alloc (.cells #[.int .i64 o1, .string s1, .string t1, .int .i64 a1, .int .i64 b1, .int .i64 c1, .int .i64 n1] 25)).alloc (.cells #[.int .i64 o3, .string s3, .int .i64 a3, .int .i64 b3, .int .i64 c3, .int .i64 n3] 34)).heap.size from by simp]; exact heap_alloc_new _ _
  have hz : W.heap.size = w.heap.size + 4 := by rw [← hW]; simp
  have HB0 : Hid (Below w.heap.size w W) := Lib.hid (by rw [← hW]; exact ((((Below.refl _ _).alloc (Nat.le_refl _) _).alloc (by simp) _).alloc (by simp; omega) _).alloc (by simp; omega) _)
  have HK0 := Lib.hid (fun V (h : Below W.heap.size W V) => cat_of g0 (by omega) h)
  have HK1 := Lib.hid (fun V (h : Below W.heap.size W V) => cat_of g1 (by omega) h)
  have HK2 := Lib.hid (fun V (h : Below W.heap.size W V) => rat_of g2 (by omega) h)
  have HK3 := Lib.hid (fun V (h : Below W.heap.size W V) => rat_of g3 (by omega) h)
  have HW := Lib.hid hW
  clear hW g0 g1 g2 g3 hz
  have BN := Lib.hid (Below.refl W.heap.size W)
  obtain ⟨kc0, kc1, kc2, kc3, kc4, kc5, kc6⟩ := HK0.out _ BN.out; obtain ⟨kd0, kd1, kd2, kd3, kd4, kd5, kd6⟩ := HK1.out _ BN.out; obtain ⟨ke0, ke1, ke2, ke3, ke4, ke5⟩ := HK2.out _ BN.out; obtain ⟨kf0, kf1, kf2, kf3, kf4, kf5⟩ := HK3.out _ BN.out
  go_enter Try.func7, Try.ntmps7
  go_wp2_with fail
  rw [HW.out]
  go_wp2_with (first
    | (go_at_call 11; (with_reducible refine (H1.out _).mono ?_); rintro e wx ⟨rfl, h⟩; replace BN : Hid (Below W.heap.size W wx) := Lib.hid (BN.out.trans (h.mono BN.out.size)); clear h kc0 kc1 kc2 kc3 kc4 kc5 kc6 kd0 kd1 kd2 kd3 kd4 kd5 kd6 ke0 ke1 ke2 ke3 ke4 ke5 kf0 kf1 kf2 kf3 kf4 kf5; obtain ⟨kc0, kc1, kc2, kc3, kc4, kc5, kc6⟩ := HK0.out _ BN.out; obtain ⟨kd0, kd1, kd2, kd3, kd4, kd5, kd6⟩ := HK1.out _ BN.out; obtain ⟨ke0, ke1, ke2, ke3, ke4, ke5⟩ := HK2.out _ BN.out; obtain ⟨kf0, kf1, kf2, kf3, kf4, kf5⟩ := HK3.out _ BN.out)
    | (go_at_call 21; (with_reducible refine (H3.out _).mono ?_); rintro e wx ⟨rfl, h⟩; replace BN : Hid (Below W.heap.size W wx) := Lib.hid (BN.out.trans (h.mono BN.out.size)); clear h kc0 kc1 kc2 kc3 kc4 kc5 kc6 kd0 kd1 kd2 kd3 kd4 kd5 kd6 ke0 ke1 ke2 ke3 ke4 ke5 kf0 kf1 kf2 kf3 kf4 kf5; obtain ⟨kc0, kc1, kc2, kc3, kc4, kc5, kc6⟩ := HK0.out _ BN.out; obtain ⟨kd0, kd1, kd2, kd3, kd4, kd5, kd6⟩ := HK1.out _ BN.out; obtain ⟨ke0, ke1, ke2, ke3, ke4, ke5⟩ := HK2.out _ BN.out; obtain ⟨kf0, kf1, kf2, kf3, kf4, kf5⟩ := HK3.out _ BN.out)
    | (go_at_call 21; (with_reducible refine (H4.out _).mono ?_); rintro e wx ⟨rfl, h⟩; replace BN : Hid (Below W.heap.size W wx) := Lib.hid (BN.out.trans (h.mono BN.out.size)); clear h kc0 kc1 kc2 kc3 kc4 kc5 kc6 kd0 kd1 kd2 kd3 kd4 kd5 kd6 ke0 ke1 ke2 ke3 ke4 ke5 kf0 kf1 kf2 kf3 kf4 kf5; obtain ⟨kc0, kc1, kc2, kc3, kc4, kc5, kc6⟩ := HK0.out _ BN.out; obtain ⟨kd0, kd1, kd2, kd3, kd4, kd5, kd6⟩ := HK1.out _ BN.out; obtain ⟨ke0, ke1, ke2, ke3, ke4, ke5⟩ := HK2.out _ BN.out; obtain ⟨kf0, kf1, kf2, kf3, kf4, kf5⟩ := HK3.out _ BN.out)
    | (go_at_call 10; (with_reducible refine (HAW.out _).mono ?_); rintro e wx ⟨rfl, h⟩; replace BN : Hid (Below W.heap.size W wx) := Lib.hid (BN.out.trans (h.mono BN.out.size)); clear h kc0 kc1 kc2 kc3 kc4 kc5 kc6 kd0 kd1 kd2 kd3 kd4 kd5 kd6 ke0 ke1 ke2 ke3 ke4 ke5 kf0 kf1 kf2 kf3 kf4 kf5; obtain ⟨kc0, kc1, kc2, kc3, kc4, kc5, kc6⟩ := HK0.out _ BN.out; obtain ⟨kd0, kd1, kd2, kd3, kd4, kd5, kd6⟩ := HK1.out _ BN.out; obtain ⟨ke0, ke1, ke2, ke3, ke4, ke5⟩ := HK2.out _ BN.out; obtain ⟨kf0, kf1, kf2, kf3, kf4, kf5⟩ := HK3.out _ BN.out))
  go_ret
  exact ⟨rfl, HB0.out.trans (BN.out.mono HB0.out.size)⟩
set_option maxHeartbeats 1000000 in
theorem apart_NEFF (X1 X2 Y1 Y2 : ByteArray) (o1 : Int) (s1 t1 : ByteArray) (a1 b1 c1 n1 : Int) (o2 : Int) (s2 t2 : ByteArray) (a2 b2 c2 n2 : Int) (o3 : Int) (s3 : ByteArray) (a3 b3 c3 n3 : Int) (o4 : Int) (s4 : ByteArray) (a4 b4 c4 n4 : Int) (w : World)
    (h1 : ∀ W, Calls Try.prog 11 #[.agg #[.int .i64 o1, .string s1, .string t1, .int .i64 a1, .int .i64 b1, .int .i64 c1, .int .i64 n1]] W (RetBelow (.tuple #[.string X1, .int .i64 0]) W))
    (h2 : ∀ W, Calls Try.prog 11 #[.agg #[.int .i64 o2, .string s2, .string t2, .int .i64 a2, .int .i64 b2, .int .i64 c2, .int .i64 n2]] W (RetBelow (.tuple #[.string X2, .int .i64 0]) W))
    (h3 : ∀ W, Calls Try.prog 21 #[.agg #[.int .i64 o3, .string s3, .int .i64 a3, .int .i64 b3, .int .i64 c3, .int .i64 n3]] W (RetBelow (.tuple #[.string ⟨#[]⟩, .int .i64 4]) W))
    (h4 : ∀ W, Calls Try.prog 21 #[.agg #[.int .i64 o4, .string s4, .int .i64 a4, .int .i64 b4, .int .i64 c4, .int .i64 n4]] W (RetBelow (.tuple #[.string ⟨#[]⟩, .int .i64 4]) W))
    (x1 : (X1.toList == X2.toList) = false)
    (x2 : eqC o1 s1 t1 a1 b1 c1 n1 o2 s2 t2 a2 b2 c2 n2 = false) :
    Calls Try.prog 7 #[.agg #[.int .i64 o1, .string s1, .string t1, .int .i64 a1, .int .i64 b1, .int .i64 c1, .int .i64 n1], .agg #[.int .i64 o2, .string s2, .string t2, .int .i64 a2, .int .i64 b2, .int .i64 c2, .int .i64 n2], .agg #[.int .i64 o3, .string s3, .int .i64 a3, .int .i64 b3, .int .i64 c3, .int .i64 n3], .agg #[.int .i64 o4, .string s4, .int .i64 a4, .int .i64 b4, .int .i64 c4, .int .i64 n4]] w (RetBelow (.bool true) w) := by
  have H1 := Lib.hid h1
  have H2 := Lib.hid h2
  have H3 := Lib.hid h3
  have H4 := Lib.hid h4
  have HAW := Lib.hid awakeC_any
  clear h1 h2 h3 h4
  have q1 : ∀ V : World, (binOp .eql 25 (.agg #[.int .i64 o1, .string s1, .string t1, .int .i64 a1, .int .i64 b1, .int .i64 c1, .int .i64 n1]) (.agg #[.int .i64 o2, .string s2, .string t2, .int .i64 a2, .int .i64 b2, .int .i64 c2, .int .i64 n2])).run Try.prog V = .ok (.bool false) V := fun V => by rw [eq25v, x2]
  clear x2
  obtain ⟨W, hW⟩ : ∃ W, (((w.alloc (.cells #[.int .i64 o1, .string s1, .string t1, .int .i64 a1, .int .i64 b1, .int .i64 c1, .int .i64 n1] 25)).alloc (.cells #[.int .i64 o2, .string s2, .string t2, .int .i64 a2, .int .i64 b2, .int .i64 c2, .int .i64 n2] 25)).alloc (.cells #[.int .i64 o3, .string s3, .int .i64 a3, .int .i64 b3, .int .i64 c3, .int .i64 n3] 34)).alloc (.cells #[.int .i64 o4, .string s4, .int .i64 a4, .int .i64 b4, .int .i64 c4, .int .i64 n4] 34) = W := ⟨_, rfl⟩
  have g0 : W.heap[w.heap.size]? = some (cRowV o1 s1 t1 a1 b1 c1 n1) := by rw [← hW]; exact keepAlloc _ (keepAlloc _ (keepAlloc _ (heap_alloc_new w _)))
  have g1 : W.heap[w.heap.size + 1]? = some (cRowV o2 s2 t2 a2 b2 c2 n2) := by rw [← hW]; exact keepAlloc _ (keepAlloc _ (by rw [show w.heap.size + 1 = (w.alloc (.cells #[.int .i64 o1, .string s1, .string t1, .int .i64 a1, .int .i64 b1, .int .i64 c1, .int .i64 n1] 25)).heap.size from by simp]; exact heap_alloc_new _ _))
  have g2 : W.heap[w.heap.size + 1 + 1]? = some (rRowV o3 s3 a3 b3 c3 n3) := by rw [← hW]; exact keepAlloc _ (by rw [show w.heap.size + 1 + 1 = ((w.alloc (.cells #[.int .i64 o1, .string s1, .string t1, .int .i64 a1, .int .i64 b1, .int .i64 c1, .int .i64 n1] 25)).alloc (.cells #[.int .i64 o2, .string s2, .string t2, .int .i64 a2, .int .i64 b2, .int .i64 c2, .int .i64 n2] 25)).heap.size from by simp]; exact heap_alloc_new _ _)
  have g3 : W.heap[w.heap.size + 1 + 1 + 1]? = some (rRowV o4 s4 a4 b4 c4 n4) := by rw [← hW]; rw [show w.heap.size + 1 + 1 + 1 = (((w.alloc (.cells #[.int .i64 o1, .string s1, .string t1, .int .i64 a1, .int .i64 b1, .int .i64 c1, .int .i64 n1] 25)).alloc (.cells #[.int .i64 o2, .string s2, .string t2, .int .i64 a2, .int .i64 b2, .int .i64 c2, .int .i64 n2] 25)).alloc (.cells #[.int .i64 o3, .string s3, .int .i64 a3, .int .i64 b3, .int .i64 c3, .int .i64 n3] 34)).heap.size from by simp]; exact heap_alloc_new _ _
  have hz : W.heap.size = w.heap.size + 4 := by rw [← hW]; simp
  have HB0 : Hid (Below w.heap.size w W) := Lib.hid (by rw [← hW]; exact ((((Below.refl _ _).alloc (Nat.le_refl _) _).alloc (by simp) _).alloc (by simp; omega) _).alloc (by simp; omega) _)
  have HK0 := Lib.hid (fun V (h : Below W.heap.size W V) => cat_of g0 (by omega) h)
  have HK1 := Lib.hid (fun V (h : Below W.heap.size W V) => cat_of g1 (by omega) h)
  have HK2 := Lib.hid (fun V (h : Below W.heap.size W V) => rat_of g2 (by omega) h)
  have HK3 := Lib.hid (fun V (h : Below W.heap.size W V) => rat_of g3 (by omega) h)
  have HW := Lib.hid hW
  clear hW g0 g1 g2 g3 hz
  have BN := Lib.hid (Below.refl W.heap.size W)
  obtain ⟨kc0, kc1, kc2, kc3, kc4, kc5, kc6⟩ := HK0.out _ BN.out; obtain ⟨kd0, kd1, kd2, kd3, kd4, kd5, kd6⟩ := HK1.out _ BN.out; obtain ⟨ke0, ke1, ke2, ke3, ke4, ke5⟩ := HK2.out _ BN.out; obtain ⟨kf0, kf1, kf2, kf3, kf4, kf5⟩ := HK3.out _ BN.out
  go_enter Try.func7, Try.ntmps7
  go_wp2_with fail
  rw [HW.out]
  go_wp2_with (first
    | (go_at_call 11; (with_reducible refine (H1.out _).mono ?_); rintro e wx ⟨rfl, h⟩; replace BN : Hid (Below W.heap.size W wx) := Lib.hid (BN.out.trans (h.mono BN.out.size)); clear h kc0 kc1 kc2 kc3 kc4 kc5 kc6 kd0 kd1 kd2 kd3 kd4 kd5 kd6 ke0 ke1 ke2 ke3 ke4 ke5 kf0 kf1 kf2 kf3 kf4 kf5; obtain ⟨kc0, kc1, kc2, kc3, kc4, kc5, kc6⟩ := HK0.out _ BN.out; obtain ⟨kd0, kd1, kd2, kd3, kd4, kd5, kd6⟩ := HK1.out _ BN.out; obtain ⟨ke0, ke1, ke2, ke3, ke4, ke5⟩ := HK2.out _ BN.out; obtain ⟨kf0, kf1, kf2, kf3, kf4, kf5⟩ := HK3.out _ BN.out)
    | (go_at_call 11; (with_reducible refine (H2.out _).mono ?_); rintro e wx ⟨rfl, h⟩; replace BN : Hid (Below W.heap.size W wx) := Lib.hid (BN.out.trans (h.mono BN.out.size)); clear h kc0 kc1 kc2 kc3 kc4 kc5 kc6 kd0 kd1 kd2 kd3 kd4 kd5 kd6 ke0 ke1 ke2 ke3 ke4 ke5 kf0 kf1 kf2 kf3 kf4 kf5; obtain ⟨kc0, kc1, kc2, kc3, kc4, kc5, kc6⟩ := HK0.out _ BN.out; obtain ⟨kd0, kd1, kd2, kd3, kd4, kd5, kd6⟩ := HK1.out _ BN.out; obtain ⟨ke0, ke1, ke2, ke3, ke4, ke5⟩ := HK2.out _ BN.out; obtain ⟨kf0, kf1, kf2, kf3, kf4, kf5⟩ := HK3.out _ BN.out)
    | (go_at_call 21; (with_reducible refine (H3.out _).mono ?_); rintro e wx ⟨rfl, h⟩; replace BN : Hid (Below W.heap.size W wx) := Lib.hid (BN.out.trans (h.mono BN.out.size)); clear h kc0 kc1 kc2 kc3 kc4 kc5 kc6 kd0 kd1 kd2 kd3 kd4 kd5 kd6 ke0 ke1 ke2 ke3 ke4 ke5 kf0 kf1 kf2 kf3 kf4 kf5; obtain ⟨kc0, kc1, kc2, kc3, kc4, kc5, kc6⟩ := HK0.out _ BN.out; obtain ⟨kd0, kd1, kd2, kd3, kd4, kd5, kd6⟩ := HK1.out _ BN.out; obtain ⟨ke0, ke1, ke2, ke3, ke4, ke5⟩ := HK2.out _ BN.out; obtain ⟨kf0, kf1, kf2, kf3, kf4, kf5⟩ := HK3.out _ BN.out)
    | (go_at_call 21; (with_reducible refine (H4.out _).mono ?_); rintro e wx ⟨rfl, h⟩; replace BN : Hid (Below W.heap.size W wx) := Lib.hid (BN.out.trans (h.mono BN.out.size)); clear h kc0 kc1 kc2 kc3 kc4 kc5 kc6 kd0 kd1 kd2 kd3 kd4 kd5 kd6 ke0 ke1 ke2 ke3 ke4 ke5 kf0 kf1 kf2 kf3 kf4 kf5; obtain ⟨kc0, kc1, kc2, kc3, kc4, kc5, kc6⟩ := HK0.out _ BN.out; obtain ⟨kd0, kd1, kd2, kd3, kd4, kd5, kd6⟩ := HK1.out _ BN.out; obtain ⟨ke0, ke1, ke2, ke3, ke4, ke5⟩ := HK2.out _ BN.out; obtain ⟨kf0, kf1, kf2, kf3, kf4, kf5⟩ := HK3.out _ BN.out)
    | (go_at_call 10; (with_reducible refine (HAW.out _).mono ?_); rintro e wx ⟨rfl, h⟩; replace BN : Hid (Below W.heap.size W wx) := Lib.hid (BN.out.trans (h.mono BN.out.size)); clear h kc0 kc1 kc2 kc3 kc4 kc5 kc6 kd0 kd1 kd2 kd3 kd4 kd5 kd6 ke0 ke1 ke2 ke3 ke4 ke5 kf0 kf1 kf2 kf3 kf4 kf5; obtain ⟨kc0, kc1, kc2, kc3, kc4, kc5, kc6⟩ := HK0.out _ BN.out; obtain ⟨kd0, kd1, kd2, kd3, kd4, kd5, kd6⟩ := HK1.out _ BN.out; obtain ⟨ke0, ke1, ke2, ke3, ke4, ke5⟩ := HK2.out _ BN.out; obtain ⟨kf0, kf1, kf2, kf3, kf4, kf5⟩ := HK3.out _ BN.out))
  go_ret
  exact ⟨rfl, HB0.out.trans (BN.out.mono HB0.out.size)⟩
set_option maxHeartbeats 1000000 in
theorem apart_NEFT (X1 X2 Y1 Y2 : ByteArray) (o1 : Int) (s1 t1 : ByteArray) (a1 b1 c1 n1 : Int) (o2 : Int) (s2 t2 : ByteArray) (a2 b2 c2 n2 : Int) (o3 : Int) (s3 : ByteArray) (a3 b3 c3 n3 : Int) (o4 : Int) (s4 : ByteArray) (a4 b4 c4 n4 : Int) (w : World)
    (h1 : ∀ W, Calls Try.prog 11 #[.agg #[.int .i64 o1, .string s1, .string t1, .int .i64 a1, .int .i64 b1, .int .i64 c1, .int .i64 n1]] W (RetBelow (.tuple #[.string X1, .int .i64 0]) W))
    (h2 : ∀ W, Calls Try.prog 11 #[.agg #[.int .i64 o2, .string s2, .string t2, .int .i64 a2, .int .i64 b2, .int .i64 c2, .int .i64 n2]] W (RetBelow (.tuple #[.string X2, .int .i64 0]) W))
    (h3 : ∀ W, Calls Try.prog 21 #[.agg #[.int .i64 o3, .string s3, .int .i64 a3, .int .i64 b3, .int .i64 c3, .int .i64 n3]] W (RetBelow (.tuple #[.string ⟨#[]⟩, .int .i64 4]) W))
    (h4 : ∀ W, Calls Try.prog 21 #[.agg #[.int .i64 o4, .string s4, .int .i64 a4, .int .i64 b4, .int .i64 c4, .int .i64 n4]] W (RetBelow (.tuple #[.string Y2, .int .i64 0]) W))
    (x1 : (X1.toList == X2.toList) = false)
    (x2 : eqC o1 s1 t1 a1 b1 c1 n1 o2 s2 t2 a2 b2 c2 n2 = false) :
    Calls Try.prog 7 #[.agg #[.int .i64 o1, .string s1, .string t1, .int .i64 a1, .int .i64 b1, .int .i64 c1, .int .i64 n1], .agg #[.int .i64 o2, .string s2, .string t2, .int .i64 a2, .int .i64 b2, .int .i64 c2, .int .i64 n2], .agg #[.int .i64 o3, .string s3, .int .i64 a3, .int .i64 b3, .int .i64 c3, .int .i64 n3], .agg #[.int .i64 o4, .string s4, .int .i64 a4, .int .i64 b4, .int .i64 c4, .int .i64 n4]] w (RetBelow (.bool true) w) := by
  have H1 := Lib.hid h1
  have H2 := Lib.hid h2
  have H3 := Lib.hid h3
  have H4 := Lib.hid h4
  have HAW := Lib.hid awakeC_any
  clear h1 h2 h3 h4
  have q1 : ∀ V : World, (binOp .eql 25 (.agg #[.int .i64 o1, .string s1, .string t1, .int .i64 a1, .int .i64 b1, .int .i64 c1, .int .i64 n1]) (.agg #[.int .i64 o2, .string s2, .string t2, .int .i64 a2, .int .i64 b2, .int .i64 c2, .int .i64 n2])).run Try.prog V = .ok (.bool false) V := fun V => by rw [eq25v, x2]
  clear x2
  obtain ⟨W, hW⟩ : ∃ W, (((w.alloc (.cells #[.int .i64 o1, .string s1, .string t1, .int .i64 a1, .int .i64 b1, .int .i64 c1, .int .i64 n1] 25)).alloc (.cells #[.int .i64 o2, .string s2, .string t2, .int .i64 a2, .int .i64 b2, .int .i64 c2, .int .i64 n2] 25)).alloc (.cells #[.int .i64 o3, .string s3, .int .i64 a3, .int .i64 b3, .int .i64 c3, .int .i64 n3] 34)).alloc (.cells #[.int .i64 o4, .string s4, .int .i64 a4, .int .i64 b4, .int .i64 c4, .int .i64 n4] 34) = W := ⟨_, rfl⟩
  have g0 : W.heap[w.heap.size]? = some (cRowV o1 s1 t1 a1 b1 c1 n1) := by rw [← hW]; exact keepAlloc _ (keepAlloc _ (keepAlloc _ (heap_alloc_new w _)))
  have g1 : W.heap[w.heap.size + 1]? = some (cRowV o2 s2 t2 a2 b2 c2 n2) := by rw [← hW]; exact keepAlloc _ (keepAlloc _ (by rw [show w.heap.size + 1 = (w.alloc (.cells #[.int .i64 o1, .string s1, .string t1, .int .i64 a1, .int .i64 b1, .int .i64 c1, .int .i64 n1] 25)).heap.size from by simp]; exact heap_alloc_new _ _))
  have g2 : W.heap[w.heap.size + 1 + 1]? = some (rRowV o3 s3 a3 b3 c3 n3) := by rw [← hW]; exact keepAlloc _ (by rw [show w.heap.size + 1 + 1 = ((w.alloc (.cells #[.int .i64 o1, .string s1, .string t1, .int .i64 a1, .int .i64 b1, .int .i64 c1, .int .i64 n1] 25)).alloc (.cells #[.int .i64 o2, .string s2, .string t2, .int .i64 a2, .int .i64 b2, .int .i64 c2, .int .i64 n2] 25)).heap.size from by simp]; exact heap_alloc_new _ _)
  have g3 : W.heap[w.heap.size + 1 + 1 + 1]? = some (rRowV o4 s4 a4 b4 c4 n4) := by rw [← hW]; rw [show w.heap.size + 1 + 1 + 1 = (((w.alloc (.cells #[.int .i64 o1, .string s1, .string t1, .int .i64 a1, .int .i64 b1, .int .i64 c1, .int .i64 n1] 25)).alloc (.cells #[.int .i64 o2, .string s2, .string t2, .int .i64 a2, .int .i64 b2, .int .i64 c2, .int .i64 n2] 25)).alloc (.cells #[.int .i64 o3, .string s3, .int .i64 a3, .int .i64 b3, .int .i64 c3, .int .i64 n3] 34)).heap.size from by simp]; exact heap_alloc_new _ _
  have hz : W.heap.size = w.heap.size + 4 := by rw [← hW]; simp
  have HB0 : Hid (Below w.heap.size w W) := Lib.hid (by rw [← hW]; exact ((((Below.refl _ _).alloc (Nat.le_refl _) _).alloc (by simp) _).alloc (by simp; omega) _).alloc (by simp; omega) _)
  have HK0 := Lib.hid (fun V (h : Below W.heap.size W V) => cat_of g0 (by omega) h)
  have HK1 := Lib.hid (fun V (h : Below W.heap.size W V) => cat_of g1 (by omega) h)
  have HK2 := Lib.hid (fun V (h : Below W.heap.size W V) => rat_of g2 (by omega) h)
  have HK3 := Lib.hid (fun V (h : Below W.heap.size W V) => rat_of g3 (by omega) h)
  have HW := Lib.hid hW
  clear hW g0 g1 g2 g3 hz
  have BN := Lib.hid (Below.refl W.heap.size W)
  obtain ⟨kc0, kc1, kc2, kc3, kc4, kc5, kc6⟩ := HK0.out _ BN.out; obtain ⟨kd0, kd1, kd2, kd3, kd4, kd5, kd6⟩ := HK1.out _ BN.out; obtain ⟨ke0, ke1, ke2, ke3, ke4, ke5⟩ := HK2.out _ BN.out; obtain ⟨kf0, kf1, kf2, kf3, kf4, kf5⟩ := HK3.out _ BN.out
  go_enter Try.func7, Try.ntmps7
  go_wp2_with fail
  rw [HW.out]
  go_wp2_with (first
    | (go_at_call 11; (with_reducible refine (H1.out _).mono ?_); rintro e wx ⟨rfl, h⟩; replace BN : Hid (Below W.heap.size W wx) := Lib.hid (BN.out.trans (h.mono BN.out.size)); clear h kc0 kc1 kc2 kc3 kc4 kc5 kc6 kd0 kd1 kd2 kd3 kd4 kd5 kd6 ke0 ke1 ke2 ke3 ke4 ke5 kf0 kf1 kf2 kf3 kf4 kf5; obtain ⟨kc0, kc1, kc2, kc3, kc4, kc5, kc6⟩ := HK0.out _ BN.out; obtain ⟨kd0, kd1, kd2, kd3, kd4, kd5, kd6⟩ := HK1.out _ BN.out; obtain ⟨ke0, ke1, ke2, ke3, ke4, ke5⟩ := HK2.out _ BN.out; obtain ⟨kf0, kf1, kf2, kf3, kf4, kf5⟩ := HK3.out _ BN.out)
    | (go_at_call 11; (with_reducible refine (H2.out _).mono ?_); rintro e wx ⟨rfl, h⟩; replace BN : Hid (Below W.heap.size W wx) := Lib.hid (BN.out.trans (h.mono BN.out.size)); clear h kc0 kc1 kc2 kc3 kc4 kc5 kc6 kd0 kd1 kd2 kd3 kd4 kd5 kd6 ke0 ke1 ke2 ke3 ke4 ke5 kf0 kf1 kf2 kf3 kf4 kf5; obtain ⟨kc0, kc1, kc2, kc3, kc4, kc5, kc6⟩ := HK0.out _ BN.out; obtain ⟨kd0, kd1, kd2, kd3, kd4, kd5, kd6⟩ := HK1.out _ BN.out; obtain ⟨ke0, ke1, ke2, ke3, ke4, ke5⟩ := HK2.out _ BN.out; obtain ⟨kf0, kf1, kf2, kf3, kf4, kf5⟩ := HK3.out _ BN.out)
    | (go_at_call 21; (with_reducible refine (H3.out _).mono ?_); rintro e wx ⟨rfl, h⟩; replace BN : Hid (Below W.heap.size W wx) := Lib.hid (BN.out.trans (h.mono BN.out.size)); clear h kc0 kc1 kc2 kc3 kc4 kc5 kc6 kd0 kd1 kd2 kd3 kd4 kd5 kd6 ke0 ke1 ke2 ke3 ke4 ke5 kf0 kf1 kf2 kf3 kf4 kf5; obtain ⟨kc0, kc1, kc2, kc3, kc4, kc5, kc6⟩ := HK0.out _ BN.out; obtain ⟨kd0, kd1, kd2, kd3, kd4, kd5, kd6⟩ := HK1.out _ BN.out; obtain ⟨ke0, ke1, ke2, ke3, ke4, ke5⟩ := HK2.out _ BN.out; obtain ⟨kf0, kf1, kf2, kf3, kf4, kf5⟩ := HK3.out _ BN.out)
    | (go_at_call 21; (with_reducible refine (H4.out _).mono ?_); rintro e wx ⟨rfl, h⟩; replace BN : Hid (Below W.heap.size W wx) := Lib.hid (BN.out.trans (h.mono BN.out.size)); clear h kc0 kc1 kc2 kc3 kc4 kc5 kc6 kd0 kd1 kd2 kd3 kd4 kd5 kd6 ke0 ke1 ke2 ke3 ke4 ke5 kf0 kf1 kf2 kf3 kf4 kf5; obtain ⟨kc0, kc1, kc2, kc3, kc4, kc5, kc6⟩ := HK0.out _ BN.out; obtain ⟨kd0, kd1, kd2, kd3, kd4, kd5, kd6⟩ := HK1.out _ BN.out; obtain ⟨ke0, ke1, ke2, ke3, ke4, ke5⟩ := HK2.out _ BN.out; obtain ⟨kf0, kf1, kf2, kf3, kf4, kf5⟩ := HK3.out _ BN.out)
    | (go_at_call 10; (with_reducible refine (HAW.out _).mono ?_); rintro e wx ⟨rfl, h⟩; replace BN : Hid (Below W.heap.size W wx) := Lib.hid (BN.out.trans (h.mono BN.out.size)); clear h kc0 kc1 kc2 kc3 kc4 kc5 kc6 kd0 kd1 kd2 kd3 kd4 kd5 kd6 ke0 ke1 ke2 ke3 ke4 ke5 kf0 kf1 kf2 kf3 kf4 kf5; obtain ⟨kc0, kc1, kc2, kc3, kc4, kc5, kc6⟩ := HK0.out _ BN.out; obtain ⟨kd0, kd1, kd2, kd3, kd4, kd5, kd6⟩ := HK1.out _ BN.out; obtain ⟨ke0, ke1, ke2, ke3, ke4, ke5⟩ := HK2.out _ BN.out; obtain ⟨kf0, kf1, kf2, kf3, kf4, kf5⟩ := HK3.out _ BN.out))
  go_ret
  exact ⟨rfl, HB0.out.trans (BN.out.mono HB0.out.size)⟩
set_option maxHeartbeats 1000000 in
theorem apart_NETF (X1 X2 Y1 Y2 : ByteArray) (o1 : Int) (s1 t1 : ByteArray) (a1 b1 c1 n1 : Int) (o2 : Int) (s2 t2 : ByteArray) (a2 b2 c2 n2 : Int) (o3 : Int) (s3 : ByteArray) (a3 b3 c3 n3 : Int) (o4 : Int) (s4 : ByteArray) (a4 b4 c4 n4 : Int) (w : World)
    (h1 : ∀ W, Calls Try.prog 11 #[.agg #[.int .i64 o1, .string s1, .string t1, .int .i64 a1, .int .i64 b1, .int .i64 c1, .int .i64 n1]] W (RetBelow (.tuple #[.string X1, .int .i64 0]) W))
    (h2 : ∀ W, Calls Try.prog 11 #[.agg #[.int .i64 o2, .string s2, .string t2, .int .i64 a2, .int .i64 b2, .int .i64 c2, .int .i64 n2]] W (RetBelow (.tuple #[.string X2, .int .i64 0]) W))
    (h3 : ∀ W, Calls Try.prog 21 #[.agg #[.int .i64 o3, .string s3, .int .i64 a3, .int .i64 b3, .int .i64 c3, .int .i64 n3]] W (RetBelow (.tuple #[.string Y1, .int .i64 0]) W))
    (h4 : ∀ W, Calls Try.prog 21 #[.agg #[.int .i64 o4, .string s4, .int .i64 a4, .int .i64 b4, .int .i64 c4, .int .i64 n4]] W (RetBelow (.tuple #[.string ⟨#[]⟩, .int .i64 4]) W))
    (x1 : (X1.toList == X2.toList) = false)
    (x2 : eqC o1 s1 t1 a1 b1 c1 n1 o2 s2 t2 a2 b2 c2 n2 = false)
    (z1 : (X1.toList == Y1.toList) = false) :
    Calls Try.prog 7 #[.agg #[.int .i64 o1, .string s1, .string t1, .int .i64 a1, .int .i64 b1, .int .i64 c1, .int .i64 n1], .agg #[.int .i64 o2, .string s2, .string t2, .int .i64 a2, .int .i64 b2, .int .i64 c2, .int .i64 n2], .agg #[.int .i64 o3, .string s3, .int .i64 a3, .int .i64 b3, .int .i64 c3, .int .i64 n3], .agg #[.int .i64 o4, .string s4, .int .i64 a4, .int .i64 b4, .int .i64 c4, .int .i64 n4]] w (RetBelow (.bool true) w) := by
  have H1 := Lib.hid h1
  have H2 := Lib.hid h2
  have H3 := Lib.hid h3
  have H4 := Lib.hid h4
  have HAW := Lib.hid awakeC_any
  clear h1 h2 h3 h4
  have q1 : ∀ V : World, (binOp .eql 25 (.agg #[.int .i64 o1, .string s1, .string t1, .int .i64 a1, .int .i64 b1, .int .i64 c1, .int .i64 n1]) (.agg #[.int .i64 o2, .string s2, .string t2, .int .i64 a2, .int .i64 b2, .int .i64 c2, .int .i64 n2])).run Try.prog V = .ok (.bool false) V := fun V => by rw [eq25v, x2]
  clear x2
  obtain ⟨W, hW⟩ : ∃ W, (((w.alloc (.cells #[.int .i64 o1, .string s1, .string t1, .int .i64 a1, .int .i64 b1, .int .i64 c1, .int .i64 n1] 25)).alloc (.cells #[.int .i64 o2, .string s2, .string t2, .int .i64 a2, .int .i64 b2, .int .i64 c2, .int .i64 n2] 25)).alloc (.cells #[.int .i64 o3, .string s3, .int .i64 a3, .int .i64 b3, .int .i64 c3, .int .i64 n3] 34)).alloc (.cells #[.int .i64 o4, .string s4, .int .i64 a4, .int .i64 b4, .int .i64 c4, .int .i64 n4] 34) = W := ⟨_, rfl⟩
  have g0 : W.heap[w.heap.size]? = some (cRowV o1 s1 t1 a1 b1 c1 n1) := by rw [← hW]; exact keepAlloc _ (keepAlloc _ (keepAlloc _ (heap_alloc_new w _)))
  have g1 : W.heap[w.heap.size + 1]? = some (cRowV o2 s2 t2 a2 b2 c2 n2) := by rw [← hW]; exact keepAlloc _ (keepAlloc _ (by rw [show w.heap.size + 1 = (w.alloc (.cells #[.int .i64 o1, .string s1, .string t1, .int .i64 a1, .int .i64 b1, .int .i64 c1, .int .i64 n1] 25)).heap.size from by simp]; exact heap_alloc_new _ _))
  have g2 : W.heap[w.heap.size + 1 + 1]? = some (rRowV o3 s3 a3 b3 c3 n3) := by rw [← hW]; exact keepAlloc _ (by rw [show w.heap.size + 1 + 1 = ((w.alloc (.cells #[.int .i64 o1, .string s1, .string t1, .int .i64 a1, .int .i64 b1, .int .i64 c1, .int .i64 n1] 25)).alloc (.cells #[.int .i64 o2, .string s2, .string t2, .int .i64 a2, .int .i64 b2, .int .i64 c2, .int .i64 n2] 25)).heap.size from by simp]; exact heap_alloc_new _ _)
  have g3 : W.heap[w.heap.size + 1 + 1 + 1]? = some (rRowV o4 s4 a4 b4 c4 n4) := by rw [← hW]; rw [show w.heap.size + 1 + 1 + 1 = (((w.alloc (.cells #[.int .i64 o1, .string s1, .string t1, .int .i64 a1, .int .i64 b1, .int .i64 c1, .int .i64 n1] 25)).alloc (.cells #[.int .i64 o2, .string s2, .string t2, .int .i64 a2, .int .i64 b2, .int .i64 c2, .int .i64 n2] 25)).alloc (.cells #[.int .i64 o3, .string s3, .int .i64 a3, .int .i64 b3, .int .i64 c3, .int .i64 n3] 34)).heap.size from by simp]; exact heap_alloc_new _ _
  have hz : W.heap.size = w.heap.size + 4 := by rw [← hW]; simp
  have HB0 : Hid (Below w.heap.size w W) := Lib.hid (by rw [← hW]; exact ((((Below.refl _ _).alloc (Nat.le_refl _) _).alloc (by simp) _).alloc (by simp; omega) _).alloc (by simp; omega) _)
  have HK0 := Lib.hid (fun V (h : Below W.heap.size W V) => cat_of g0 (by omega) h)
  have HK1 := Lib.hid (fun V (h : Below W.heap.size W V) => cat_of g1 (by omega) h)
  have HK2 := Lib.hid (fun V (h : Below W.heap.size W V) => rat_of g2 (by omega) h)
  have HK3 := Lib.hid (fun V (h : Below W.heap.size W V) => rat_of g3 (by omega) h)
  have HW := Lib.hid hW
  clear hW g0 g1 g2 g3 hz
  have BN := Lib.hid (Below.refl W.heap.size W)
  obtain ⟨kc0, kc1, kc2, kc3, kc4, kc5, kc6⟩ := HK0.out _ BN.out; obtain ⟨kd0, kd1, kd2, kd3, kd4, kd5, kd6⟩ := HK1.out _ BN.out; obtain ⟨ke0, ke1, ke2, ke3, ke4, ke5⟩ := HK2.out _ BN.out; obtain ⟨kf0, kf1, kf2, kf3, kf4, kf5⟩ := HK3.out _ BN.out
  go_enter Try.func7, Try.ntmps7
  go_wp2_with fail
  rw [HW.out]
  go_wp2_with (first
    | (go_at_call 11; (with_reducible refine (H1.out _).mono ?_); rintro e wx ⟨rfl, h⟩; replace BN : Hid (Below W.heap.size W wx) := Lib.hid (BN.out.trans (h.mono BN.out.size)); clear h kc0 kc1 kc2 kc3 kc4 kc5 kc6 kd0 kd1 kd2 kd3 kd4 kd5 kd6 ke0 ke1 ke2 ke3 ke4 ke5 kf0 kf1 kf2 kf3 kf4 kf5; obtain ⟨kc0, kc1, kc2, kc3, kc4, kc5, kc6⟩ := HK0.out _ BN.out; obtain ⟨kd0, kd1, kd2, kd3, kd4, kd5, kd6⟩ := HK1.out _ BN.out; obtain ⟨ke0, ke1, ke2, ke3, ke4, ke5⟩ := HK2.out _ BN.out; obtain ⟨kf0, kf1, kf2, kf3, kf4, kf5⟩ := HK3.out _ BN.out)
    | (go_at_call 11; (with_reducible refine (H2.out _).mono ?_); rintro e wx ⟨rfl, h⟩; replace BN : Hid (Below W.heap.size W wx) := Lib.hid (BN.out.trans (h.mono BN.out.size)); clear h kc0 kc1 kc2 kc3 kc4 kc5 kc6 kd0 kd1 kd2 kd3 kd4 kd5 kd6 ke0 ke1 ke2 ke3 ke4 ke5 kf0 kf1 kf2 kf3 kf4 kf5; obtain ⟨kc0, kc1, kc2, kc3, kc4, kc5, kc6⟩ := HK0.out _ BN.out; obtain ⟨kd0, kd1, kd2, kd3, kd4, kd5, kd6⟩ := HK1.out _ BN.out; obtain ⟨ke0, ke1, ke2, ke3, ke4, ke5⟩ := HK2.out _ BN.out; obtain ⟨kf0, kf1, kf2, kf3, kf4, kf5⟩ := HK3.out _ BN.out)
    | (go_at_call 21; (with_reducible refine (H3.out _).mono ?_); rintro e wx ⟨rfl, h⟩; replace BN : Hid (Below W.heap.size W wx) := Lib.hid (BN.out.trans (h.mono BN.out.size)); clear h kc0 kc1 kc2 kc3 kc4 kc5 kc6 kd0 kd1 kd2 kd3 kd4 kd5 kd6 ke0 ke1 ke2 ke3 ke4 ke5 kf0 kf1 kf2 kf3 kf4 kf5; obtain ⟨kc0, kc1, kc2, kc3, kc4, kc5, kc6⟩ := HK0.out _ BN.out; obtain ⟨kd0, kd1, kd2, kd3, kd4, kd5, kd6⟩ := HK1.out _ BN.out; obtain ⟨ke0, ke1, ke2, ke3, ke4, ke5⟩ := HK2.out _ BN.out; obtain ⟨kf0, kf1, kf2, kf3, kf4, kf5⟩ := HK3.out _ BN.out)
    | (go_at_call 21; (with_reducible refine (H4.out _).mono ?_); rintro e wx ⟨rfl, h⟩; replace BN : Hid (Below W.heap.size W wx) := Lib.hid (BN.out.trans (h.mono BN.out.size)); clear h kc0 kc1 kc2 kc3 kc4 kc5 kc6 kd0 kd1 kd2 kd3 kd4 kd5 kd6 ke0 ke1 ke2 ke3 ke4 ke5 kf0 kf1 kf2 kf3 kf4 kf5; obtain ⟨kc0, kc1, kc2, kc3, kc4, kc5, kc6⟩ := HK0.out _ BN.out; obtain ⟨kd0, kd1, kd2, kd3, kd4, kd5, kd6⟩ := HK1.out _ BN.out; obtain ⟨ke0, ke1, ke2, ke3, ke4, ke5⟩ := HK2.out _ BN.out; obtain ⟨kf0, kf1, kf2, kf3, kf4, kf5⟩ := HK3.out _ BN.out)
    | (go_at_call 10; (with_reducible refine (HAW.out _).mono ?_); rintro e wx ⟨rfl, h⟩; replace BN : Hid (Below W.heap.size W wx) := Lib.hid (BN.out.trans (h.mono BN.out.size)); clear h kc0 kc1 kc2 kc3 kc4 kc5 kc6 kd0 kd1 kd2 kd3 kd4 kd5 kd6 ke0 ke1 ke2 ke3 ke4 ke5 kf0 kf1 kf2 kf3 kf4 kf5; obtain ⟨kc0, kc1, kc2, kc3, kc4, kc5, kc6⟩ := HK0.out _ BN.out; obtain ⟨kd0, kd1, kd2, kd3, kd4, kd5, kd6⟩ := HK1.out _ BN.out; obtain ⟨ke0, ke1, ke2, ke3, ke4, ke5⟩ := HK2.out _ BN.out; obtain ⟨kf0, kf1, kf2, kf3, kf4, kf5⟩ := HK3.out _ BN.out))
  go_ret
  exact ⟨rfl, HB0.out.trans (BN.out.mono HB0.out.size)⟩
set_option maxHeartbeats 1000000 in
theorem apart_NEEQ (X1 X2 Y1 Y2 : ByteArray) (o1 : Int) (s1 t1 : ByteArray) (a1 b1 c1 n1 : Int) (o2 : Int) (s2 t2 : ByteArray) (a2 b2 c2 n2 : Int) (o3 : Int) (s3 : ByteArray) (a3 b3 c3 n3 : Int) (o4 : Int) (s4 : ByteArray) (a4 b4 c4 n4 : Int) (w : World)
    (h1 : ∀ W, Calls Try.prog 11 #[.agg #[.int .i64 o1, .string s1, .string t1, .int .i64 a1, .int .i64 b1, .int .i64 c1, .int .i64 n1]] W (RetBelow (.tuple #[.string X1, .int .i64 0]) W))
    (h2 : ∀ W, Calls Try.prog 11 #[.agg #[.int .i64 o2, .string s2, .string t2, .int .i64 a2, .int .i64 b2, .int .i64 c2, .int .i64 n2]] W (RetBelow (.tuple #[.string X2, .int .i64 0]) W))
    (h3 : ∀ W, Calls Try.prog 21 #[.agg #[.int .i64 o3, .string s3, .int .i64 a3, .int .i64 b3, .int .i64 c3, .int .i64 n3]] W (RetBelow (.tuple #[.string Y1, .int .i64 0]) W))
    (x1 : (X1.toList == X2.toList) = false)
    (x2 : eqC o1 s1 t1 a1 b1 c1 n1 o2 s2 t2 a2 b2 c2 n2 = false)
    (z1 : (X1.toList == Y1.toList) = false) :
    Calls Try.prog 7 #[.agg #[.int .i64 o1, .string s1, .string t1, .int .i64 a1, .int .i64 b1, .int .i64 c1, .int .i64 n1], .agg #[.int .i64 o2, .string s2, .string t2, .int .i64 a2, .int .i64 b2, .int .i64 c2, .int .i64 n2], .agg #[.int .i64 o3, .string s3, .int .i64 a3, .int .i64 b3, .int .i64 c3, .int .i64 n3], .agg #[.int .i64 o3, .string s3, .int .i64 a3, .int .i64 b3, .int .i64 c3, .int .i64 n3]] w (RetBelow (.bool true) w) := by
  have H1 := Lib.hid h1
  have H2 := Lib.hid h2
  have H3 := Lib.hid h3
  have HAW := Lib.hid awakeC_any
  clear h1 h2 h3
  have q1 : ∀ V : World, (binOp .eql 25 (.agg #[.int .i64 o1, .string s1, .string t1, .int .i64 a1, .int .i64 b1, .int .i64 c1, .int .i64 n1]) (.agg #[.int .i64 o2, .string s2, .string t2, .int .i64 a2, .int .i64 b2, .int .i64 c2, .int .i64 n2])).run Try.prog V = .ok (.bool false) V := fun V => by rw [eq25v, x2]
  clear x2
  have q2 : ∀ V : World, (binOp .eql 34 (.agg #[.int .i64 o3, .string s3, .int .i64 a3, .int .i64 b3, .int .i64 c3, .int .i64 n3]) (.agg #[.int .i64 o3, .string s3, .int .i64 a3, .int .i64 b3, .int .i64 c3, .int .i64 n3])).run Try.prog V = .ok (.bool true) V := fun V => by rw [eq34v, eqR_self]
  obtain ⟨W, hW⟩ : ∃ W, (((w.alloc (.cells #[.int .i64 o1, .string s1, .string t1, .int .i64 a1, .int .i64 b1, .int .i64 c1, .int .i64 n1] 25)).alloc (.cells #[.int .i64 o2, .string s2, .string t2, .int .i64 a2, .int .i64 b2, .int .i64 c2, .int .i64 n2] 25)).alloc (.cells #[.int .i64 o3, .string s3, .int .i64 a3, .int .i64 b3, .int .i64 c3, .int .i64 n3] 34)).alloc (.cells #[.int .i64 o3, .string s3, .int .i64 a3, .int .i64 b3, .int .i64 c3, .int .i64 n3] 34) = W := ⟨_, rfl⟩
  have g0 : W.heap[w.heap.size]? = some (cRowV o1 s1 t1 a1 b1 c1 n1) := by rw [← hW]; exact keepAlloc _ (keepAlloc _ (keepAlloc _ (heap_alloc_new w _)))
  have g1 : W.heap[w.heap.size + 1]? = some (cRowV o2 s2 t2 a2 b2 c2 n2) := by rw [← hW]; exact keepAlloc _ (keepAlloc _ (by rw [show w.heap.size + 1 = (w.alloc (.cells #[.int .i64 o1, .string s1, .string t1, .int .i64 a1, .int .i64 b1, .int .i64 c1, .int .i64 n1] 25)).heap.size from by simp]; exact heap_alloc_new _ _))
  have g2 : W.heap[w.heap.size + 1 + 1]? = some (rRowV o3 s3 a3 b3 c3 n3) := by rw [← hW]; exact keepAlloc _ (by rw [show w.heap.size + 1 + 1 = ((w.alloc (.cells #[.int .i64 o1, .string s1, .string t1, .int .i64 a1, .int .i64 b1, .int .i64 c1, .int .i64 n1] 25)).alloc (.cells #[.int .i64 o2, .string s2, .string t2, .int .i64 a2, .int .i64 b2, .int .i64 c2, .int .i64 n2] 25)).heap.size from by simp]; exact heap_alloc_new _ _)
  have g3 : W.heap[w.heap.size + 1 + 1 + 1]? = some (rRowV o3 s3 a3 b3 c3 n3) := by rw [← hW]; rw [show w.heap.size + 1 + 1 + 1 = (((w.alloc (.cells #[.int .i64 o1, .string s1, .string t1, .int .i64 a1, .int .i64 b1, .int .i64 c1, .int .i64 n1] 25)).alloc (.cells #[.int .i64 o2, .string s2, .string t2, .int .i64 a2, .int .i64 b2, .int .i64 c2, .int .i64 n2] 25)).alloc (.cells #[.int .i64 o3, .string s3, .int .i64 a3, .int .i64 b3, .int .i64 c3, .int .i64 n3] 34)).heap.size from by simp]; exact heap_alloc_new _ _
  have hz : W.heap.size = w.heap.size + 4 := by rw [← hW]; simp
  have HB0 : Hid (Below w.heap.size w W) := Lib.hid (by rw [← hW]; exact ((((Below.refl _ _).alloc (Nat.le_refl _) _).alloc (by simp) _).alloc (by simp; omega) _).alloc (by simp; omega) _)
  have HK0 := Lib.hid (fun V (h : Below W.heap.size W V) => cat_of g0 (by omega) h)
  have HK1 := Lib.hid (fun V (h : Below W.heap.size W V) => cat_of g1 (by omega) h)
  have HK2 := Lib.hid (fun V (h : Below W.heap.size W V) => rat_of g2 (by omega) h)
  have HK3 := Lib.hid (fun V (h : Below W.heap.size W V) => rat_of g3 (by omega) h)
  have HW := Lib.hid hW
  clear hW g0 g1 g2 g3 hz
  have BN := Lib.hid (Below.refl W.heap.size W)
  obtain ⟨kc0, kc1, kc2, kc3, kc4, kc5, kc6⟩ := HK0.out _ BN.out; obtain ⟨kd0, kd1, kd2, kd3, kd4, kd5, kd6⟩ := HK1.out _ BN.out; obtain ⟨ke0, ke1, ke2, ke3, ke4, ke5⟩ := HK2.out _ BN.out; obtain ⟨kf0, kf1, kf2, kf3, kf4, kf5⟩ := HK3.out _ BN.out
  go_enter Try.func7, Try.ntmps7
  go_wp2_with fail
  rw [HW.out]
  go_wp2_with (first
    | (go_at_call 11; (with_reducible refine (H1.out _).mono ?_); rintro e wx ⟨rfl, h⟩; replace BN : Hid (Below W.heap.size W wx) := Lib.hid (BN.out.trans (h.mono BN.out.size)); clear h kc0 kc1 kc2 kc3 kc4 kc5 kc6 kd0 kd1 kd2 kd3 kd4 kd5 kd6 ke0 ke1 ke2 ke3 ke4 ke5 kf0 kf1 kf2 kf3 kf4 kf5; obtain ⟨kc0, kc1, kc2, kc3, kc4, kc5, kc6⟩ := HK0.out _ BN.out; obtain ⟨kd0, kd1, kd2, kd3, kd4, kd5, kd6⟩ := HK1.out _ BN.out; obtain ⟨ke0, ke1, ke2, ke3, ke4, ke5⟩ := HK2.out _ BN.out; obtain ⟨kf0, kf1, kf2, kf3, kf4, kf5⟩ := HK3.out _ BN.out)
    | (go_at_call 11; (with_reducible refine (H2.out _).mono ?_); rintro e wx ⟨rfl, h⟩; replace BN : Hid (Below W.heap.size W wx) := Lib.hid (BN.out.trans (h.mono BN.out.size)); clear h kc0 kc1 kc2 kc3 kc4 kc5 kc6 kd0 kd1 kd2 kd3 kd4 kd5 kd6 ke0 ke1 ke2 ke3 ke4 ke5 kf0 kf1 kf2 kf3 kf4 kf5; obtain ⟨kc0, kc1, kc2, kc3, kc4, kc5, kc6⟩ := HK0.out _ BN.out; obtain ⟨kd0, kd1, kd2, kd3, kd4, kd5, kd6⟩ := HK1.out _ BN.out; obtain ⟨ke0, ke1, ke2, ke3, ke4, ke5⟩ := HK2.out _ BN.out; obtain ⟨kf0, kf1, kf2, kf3, kf4, kf5⟩ := HK3.out _ BN.out)
    | (go_at_call 21; (with_reducible refine (H3.out _).mono ?_); rintro e wx ⟨rfl, h⟩; replace BN : Hid (Below W.heap.size W wx) := Lib.hid (BN.out.trans (h.mono BN.out.size)); clear h kc0 kc1 kc2 kc3 kc4 kc5 kc6 kd0 kd1 kd2 kd3 kd4 kd5 kd6 ke0 ke1 ke2 ke3 ke4 ke5 kf0 kf1 kf2 kf3 kf4 kf5; obtain ⟨kc0, kc1, kc2, kc3, kc4, kc5, kc6⟩ := HK0.out _ BN.out; obtain ⟨kd0, kd1, kd2, kd3, kd4, kd5, kd6⟩ := HK1.out _ BN.out; obtain ⟨ke0, ke1, ke2, ke3, ke4, ke5⟩ := HK2.out _ BN.out; obtain ⟨kf0, kf1, kf2, kf3, kf4, kf5⟩ := HK3.out _ BN.out)
    | (go_at_call 10; (with_reducible refine (HAW.out _).mono ?_); rintro e wx ⟨rfl, h⟩; replace BN : Hid (Below W.heap.size W wx) := Lib.hid (BN.out.trans (h.mono BN.out.size)); clear h kc0 kc1 kc2 kc3 kc4 kc5 kc6 kd0 kd1 kd2 kd3 kd4 kd5 kd6 ke0 ke1 ke2 ke3 ke4 ke5 kf0 kf1 kf2 kf3 kf4 kf5; obtain ⟨kc0, kc1, kc2, kc3, kc4, kc5, kc6⟩ := HK0.out _ BN.out; obtain ⟨kd0, kd1, kd2, kd3, kd4, kd5, kd6⟩ := HK1.out _ BN.out; obtain ⟨ke0, ke1, ke2, ke3, ke4, ke5⟩ := HK2.out _ BN.out; obtain ⟨kf0, kf1, kf2, kf3, kf4, kf5⟩ := HK3.out _ BN.out))
  go_ret
  exact ⟨rfl, HB0.out.trans (BN.out.mono HB0.out.size)⟩
set_option maxHeartbeats 1000000 in
theorem apart_NENE (X1 X2 Y1 Y2 : ByteArray) (o1 : Int) (s1 t1 : ByteArray) (a1 b1 c1 n1 : Int) (o2 : Int) (s2 t2 : ByteArray) (a2 b2 c2 n2 : Int) (o3 : Int) (s3 : ByteArray) (a3 b3 c3 n3 : Int) (o4 : Int) (s4 : ByteArray) (a4 b4 c4 n4 : Int) (w : World)
    (h1 : ∀ W, Calls Try.prog 11 #[.agg #[.int .i64 o1, .string s1, .string t1, .int .i64 a1, .int .i64 b1, .int .i64 c1, .int .i64 n1]] W (RetBelow (.tuple #[.string X1, .int .i64 0]) W))
    (h2 : ∀ W, Calls Try.prog 11 #[.agg #[.int .i64 o2, .string s2, .string t2, .int .i64 a2, .int .i64 b2, .int .i64 c2, .int .i64 n2]] W (RetBelow (.tuple #[.string X2, .int .i64 0]) W))
    (h3 : ∀ W, Calls Try.prog 21 #[.agg #[.int .i64 o3, .string s3, .int .i64 a3, .int .i64 b3, .int .i64 c3, .int .i64 n3]] W (RetBelow (.tuple #[.string Y1, .int .i64 0]) W))
    (h4 : ∀ W, Calls Try.prog 21 #[.agg #[.int .i64 o4, .string s4, .int .i64 a4, .int .i64 b4, .int .i64 c4, .int .i64 n4]] W (RetBelow (.tuple #[.string Y2, .int .i64 0]) W))
    (x1 : (X1.toList == X2.toList) = false)
    (x2 : eqC o1 s1 t1 a1 b1 c1 n1 o2 s2 t2 a2 b2 c2 n2 = false)
    (y1 : (Y1.toList == Y2.toList) = false)
    (y2 : eqR o3 s3 a3 b3 c3 n3 o4 s4 a4 b4 c4 n4 = false)
    (z1 : (X1.toList == Y1.toList) = false) :
    Calls Try.prog 7 #[.agg #[.int .i64 o1, .string s1, .string t1, .int .i64 a1, .int .i64 b1, .int .i64 c1, .int .i64 n1], .agg #[.int .i64 o2, .string s2, .string t2, .int .i64 a2, .int .i64 b2, .int .i64 c2, .int .i64 n2], .agg #[.int .i64 o3, .string s3, .int .i64 a3, .int .i64 b3, .int .i64 c3, .int .i64 n3], .agg #[.int .i64 o4, .string s4, .int .i64 a4, .int .i64 b4, .int .i64 c4, .int .i64 n4]] w (RetBelow (.bool true) w) := by
  have H1 := Lib.hid h1
  have H2 := Lib.hid h2
  have H3 := Lib.hid h3
  have H4 := Lib.hid h4
  have HAW := Lib.hid awakeC_any
  clear h1 h2 h3 h4
  have q1 : ∀ V : World, (binOp .eql 25 (.agg #[.int .i64 o1, .string s1, .string t1, .int .i64 a1, .int .i64 b1, .int .i64 c1, .int .i64 n1]) (.agg #[.int .i64 o2, .string s2, .string t2, .int .i64 a2, .int .i64 b2, .int .i64 c2, .int .i64 n2])).run Try.prog V = .ok (.bool false) V := fun V => by rw [eq25v, x2]
  clear x2
  have q2 : ∀ V : World, (binOp .eql 34 (.agg #[.int .i64 o3, .string s3, .int .i64 a3, .int .i64 b3, .int .i64 c3, .int .i64 n3]) (.agg #[.int .i64 o4, .string s4, .int .i64 a4, .int .i64 b4, .int .i64 c4, .int .i64 n4])).run Try.prog V = .ok (.bool false) V := fun V => by rw [eq34v, y2]
  clear y2
  obtain ⟨W, hW⟩ : ∃ W, (((w.alloc (.cells #[.int .i64 o1, .string s1, .string t1, .int .i64 a1, .int .i64 b1, .int .i64 c1, .int .i64 n1] 25)).alloc (.cells #[.int .i64 o2, .string s2, .string t2, .int .i64 a2, .int .i64 b2, .int .i64 c2, .int .i64 n2] 25)).alloc (.cells #[.int .i64 o3, .string s3, .int .i64 a3, .int .i64 b3, .int .i64 c3, .int .i64 n3] 34)).alloc (.cells #[.int .i64 o4, .string s4, .int .i64 a4, .int .i64 b4, .int .i64 c4, .int .i64 n4] 34) = W := ⟨_, rfl⟩
  have g0 : W.heap[w.heap.size]? = some (cRowV o1 s1 t1 a1 b1 c1 n1) := by rw [← hW]; exact keepAlloc _ (keepAlloc _ (keepAlloc _ (heap_alloc_new w _)))
  have g1 : W.heap[w.heap.size + 1]? = some (cRowV o2 s2 t2 a2 b2 c2 n2) := by rw [← hW]; exact keepAlloc _ (keepAlloc _ (by rw [show w.heap.size + 1 = (w.alloc (.cells #[.int .i64 o1, .string s1, .string t1, .int .i64 a1, .int .i64 b1, .int .i64 c1, .int .i64 n1] 25)).heap.size from by simp]; exact heap_alloc_new _ _))
  have g2 : W.heap[w.heap.size + 1 + 1]? = some (rRowV o3 s3 a3 b3 c3 n3) := by rw [← hW]; exact keepAlloc _ (by rw [show w.heap.size + 1 + 1 = ((w.alloc (.cells #[.int .i64 o1, .string s1, .string t1, .int .i64 a1, .int .i64 b1, .int .i64 c1, .int .i64 n1] 25)).alloc (.cells #[.int .i64 o2, .string s2, .string t2, .int .i64 a2, .int .i64 b2, .int .i64 c2, .int .i64 n2] 25)).heap.size from by simp]; exact heap_alloc_new _ _)
  have g3 : W.heap[w.heap.size + 1 + 1 + 1]? = some (rRowV o4 s4 a4 b4 c4 n4) := by rw [← hW]; rw [show w.heap.size + 1 + 1 + 1 = (((w.alloc (.cells #[.int .i64 o1, .string s1, .string t1, .int .i64 a1, .int .i64 b1, .int .i64 c1, .int .i64 n1] 25)).alloc (.cells #[.int .i64 o2, .string s2, .string t2, .int .i64 a2, .int .i64 b2, .int .i64 c2, .int .i64 n2] 25)).alloc (.cells #[.int .i64 o3, .string s3, .int .i64 a3, .int .i64 b3, .int .i64 c3, .int .i64 n3] 34)).heap.size from by simp]; exact heap_alloc_new _ _
  have hz : W.heap.size = w.heap.size + 4 := by rw [← hW]; simp
  have HB0 : Hid (Below w.heap.size w W) := Lib.hid (by rw [← hW]; exact ((((Below.refl _ _).alloc (Nat.le_refl _) _).alloc (by simp) _).alloc (by simp; omega) _).alloc (by simp; omega) _)
  have HK0 := Lib.hid (fun V (h : Below W.heap.size W V) => cat_of g0 (by omega) h)
  have HK1 := Lib.hid (fun V (h : Below W.heap.size W V) => cat_of g1 (by omega) h)
  have HK2 := Lib.hid (fun V (h : Below W.heap.size W V) => rat_of g2 (by omega) h)
  have HK3 := Lib.hid (fun V (h : Below W.heap.size W V) => rat_of g3 (by omega) h)
  have HW := Lib.hid hW
  clear hW g0 g1 g2 g3 hz
  have BN := Lib.hid (Below.refl W.heap.size W)
  obtain ⟨kc0, kc1, kc2, kc3, kc4, kc5, kc6⟩ := HK0.out _ BN.out; obtain ⟨kd0, kd1, kd2, kd3, kd4, kd5, kd6⟩ := HK1.out _ BN.out; obtain ⟨ke0, ke1, ke2, ke3, ke4, ke5⟩ := HK2.out _ BN.out; obtain ⟨kf0, kf1, kf2, kf3, kf4, kf5⟩ := HK3.out _ BN.out
  go_enter Try.func7, Try.ntmps7
  go_wp2_with fail
  rw [HW.out]
  go_wp2_with (first
    | (go_at_call 11; (with_reducible refine (H1.out _).mono ?_); rintro e wx ⟨rfl, h⟩; replace BN : Hid (Below W.heap.size W wx) := Lib.hid (BN.out.trans (h.mono BN.out.size)); clear h kc0 kc1 kc2 kc3 kc4 kc5 kc6 kd0 kd1 kd2 kd3 kd4 kd5 kd6 ke0 ke1 ke2 ke3 ke4 ke5 kf0 kf1 kf2 kf3 kf4 kf5; obtain ⟨kc0, kc1, kc2, kc3, kc4, kc5, kc6⟩ := HK0.out _ BN.out; obtain ⟨kd0, kd1, kd2, kd3, kd4, kd5, kd6⟩ := HK1.out _ BN.out; obtain ⟨ke0, ke1, ke2, ke3, ke4, ke5⟩ := HK2.out _ BN.out; obtain ⟨kf0, kf1, kf2, kf3, kf4, kf5⟩ := HK3.out _ BN.out)
    | (go_at_call 11; (with_reducible refine (H2.out _).mono ?_); rintro e wx ⟨rfl, h⟩; replace BN : Hid (Below W.heap.size W wx) := Lib.hid (BN.out.trans (h.mono BN.out.size)); clear h kc0 kc1 kc2 kc3 kc4 kc5 kc6 kd0 kd1 kd2 kd3 kd4 kd5 kd6 ke0 ke1 ke2 ke3 ke4 ke5 kf0 kf1 kf2 kf3 kf4 kf5; obtain ⟨kc0, kc1, kc2, kc3, kc4, kc5, kc6⟩ := HK0.out _ BN.out; obtain ⟨kd0, kd1, kd2, kd3, kd4, kd5, kd6⟩ := HK1.out _ BN.out; obtain ⟨ke0, ke1, ke2, ke3, ke4, ke5⟩ := HK2.out _ BN.out; obtain ⟨kf0, kf1, kf2, kf3, kf4, kf5⟩ := HK3.out _ BN.out)
    | (go_at_call 21; (with_reducible refine (H3.out _).mono ?_); rintro e wx ⟨rfl, h⟩; replace BN : Hid (Below W.heap.size W wx) := Lib.hid (BN.out.trans (h.mono BN.out.size)); clear h kc0 kc1 kc2 kc3 kc4 kc5 kc6 kd0 kd1 kd2 kd3 kd4 kd5 kd6 ke0 ke1 ke2 ke3 ke4 ke5 kf0 kf1 kf2 kf3 kf4 kf5; obtain ⟨kc0, kc1, kc2, kc3, kc4, kc5, kc6⟩ := HK0.out _ BN.out; obtain ⟨kd0, kd1, kd2, kd3, kd4, kd5, kd6⟩ := HK1.out _ BN.out; obtain ⟨ke0, ke1, ke2, ke3, ke4, ke5⟩ := HK2.out _ BN.out; obtain ⟨kf0, kf1, kf2, kf3, kf4, kf5⟩ := HK3.out _ BN.out)
    | (go_at_call 21; (with_reducible refine (H4.out _).mono ?_); rintro e wx ⟨rfl, h⟩; replace BN : Hid (Below W.heap.size W wx) := Lib.hid (BN.out.trans (h.mono BN.out.size)); clear h kc0 kc1 kc2 kc3 kc4 kc5 kc6 kd0 kd1 kd2 kd3 kd4 kd5 kd6 ke0 ke1 ke2 ke3 ke4 ke5 kf0 kf1 kf2 kf3 kf4 kf5; obtain ⟨kc0, kc1, kc2, kc3, kc4, kc5, kc6⟩ := HK0.out _ BN.out; obtain ⟨kd0, kd1, kd2, kd3, kd4, kd5, kd6⟩ := HK1.out _ BN.out; obtain ⟨ke0, ke1, ke2, ke3, ke4, ke5⟩ := HK2.out _ BN.out; obtain ⟨kf0, kf1, kf2, kf3, kf4, kf5⟩ := HK3.out _ BN.out)
    | (go_at_call 10; (with_reducible refine (HAW.out _).mono ?_); rintro e wx ⟨rfl, h⟩; replace BN : Hid (Below W.heap.size W wx) := Lib.hid (BN.out.trans (h.mono BN.out.size)); clear h kc0 kc1 kc2 kc3 kc4 kc5 kc6 kd0 kd1 kd2 kd3 kd4 kd5 kd6 ke0 ke1 ke2 ke3 ke4 ke5 kf0 kf1 kf2 kf3 kf4 kf5; obtain ⟨kc0, kc1, kc2, kc3, kc4, kc5, kc6⟩ := HK0.out _ BN.out; obtain ⟨kd0, kd1, kd2, kd3, kd4, kd5, kd6⟩ := HK1.out _ BN.out; obtain ⟨ke0, ke1, ke2, ke3, ke4, ke5⟩ := HK2.out _ BN.out; obtain ⟨kf0, kf1, kf2, kf3, kf4, kf5⟩ := HK3.out _ BN.out))
  go_ret
  exact ⟨rfl, HB0.out.trans (BN.out.mono HB0.out.size)⟩
theorem cIt_inj {o : Int} {s t : ByteArray} {a b c n : Int} {o' : Int} {s' t' : ByteArray} {a' b' c' n' : Int} (r : InR o ∧ InR a ∧ InR b ∧ InR c ∧ InR n) (r' : InR o' ∧ InR a' ∧ InR b' ∧ InR c' ∧ InR n') (hm : mayC o s t a b c n = true) (hm' : mayC o' s' t' a' b' c' n' = true) (h : (cIt o s t a b c n).enc = (cIt o' s' t' a' b' c' n').enc) : eqC o s t a b c n o' s' t' a' b' c' n' = true := by
  have h1 := (resC_iff (cIt o s t a b c n).enc o s t a b c n).2 ⟨hm, r.1, r.2.1, r.2.2.1, r.2.2.2.1, r.2.2.2.2, rfl⟩
  rw [(resC_iff (cIt o s t a b c n).enc o' s' t' a' b' c' n').2 ⟨hm', r'.1, r'.2.1, r'.2.2.1, r'.2.2.2.1, r'.2.2.2.2, h⟩] at h1
  simp only [Option.some.injEq, Prod.mk.injEq] at h1
  obtain ⟨rfl, rfl, rfl, rfl, rfl, rfl, rfl⟩ := h1
  exact eqC_self _ _ _ _ _ _ _
theorem rIt_inj {o : Int} {s : ByteArray} {a b c n : Int} {o' : Int} {s' : ByteArray} {a' b' c' n' : Int} (r : InR o ∧ InR a ∧ InR b ∧ InR c ∧ InR n) (r' : InR o' ∧ InR a' ∧ InR b' ∧ InR c' ∧ InR n') (hm : mayR o s = true) (hm' : mayR o' s' = true) (h : (rIt o s a b c n).enc = (rIt o' s' a' b' c' n').enc) : eqR o s a b c n o' s' a' b' c' n' = true := by
  have h1 := (resR_iff (rIt o s a b c n).enc o s a b c n).2 ⟨hm, r.1, r.2.1, r.2.2.1, r.2.2.2.1, r.2.2.2.2, rfl⟩
  rw [(resR_iff (rIt o s a b c n).enc o' s' a' b' c' n').2 ⟨hm', r'.1, r'.2.1, r'.2.2.1, r'.2.2.2.1, r'.2.2.2.2, h⟩] at h1
  simp only [Option.some.injEq, Prod.mk.injEq] at h1
  obtain ⟨rfl, rfl, rfl, rfl, rfl, rfl⟩ := h1
  exact eqR_self _ _ _ _ _ _
theorem cr_ne {o : Int} {s t : ByteArray} {a b c n : Int} {o' : Int} {s' : ByteArray} {a' b' c' n' : Int} (r : InR o ∧ InR a ∧ InR b ∧ InR c ∧ InR n) (r' : InR o' ∧ InR a' ∧ InR b' ∧ InR c' ∧ InR n') (hm : mayC o s t a b c n = true) (hm' : mayR o' s' = true) : ¬ (rIt o' s' a' b' c' n').enc = (cIt o s t a b c n).enc := by
  intro h
  obtain ⟨z1, z2⟩ := mayC_name hm
  obtain ⟨_, _, z3⟩ := mayR_size hm'
  have h1 := cIt_dec o s t a b c n r.1 r.2.1 r.2.2.1 r.2.2.2.1 r.2.2.2.2 z1 z2
  rw [← h, rIt_dec o' s' a' b' c' n' r'.1 r'.2.1 r'.2.2.1 r'.2.2.2.1 r'.2.2.2.2 (by omega)] at h1
  simp [rIt, cIt] at h1
theorem law_apart (o1 : Int) (s1 t1 : ByteArray) (a1 b1 c1 n1 : Int) (o2 : Int) (s2 t2 : ByteArray) (a2 b2 c2 n2 : Int) (o3 : Int) (s3 : ByteArray) (a3 b3 c3 n3 : Int) (o4 : Int) (s4 : ByteArray) (a4 b4 c4 n4 : Int) (w : World) (ho1 : InR o1) (hs1 : s1.size ≤ 140737488351232) (ht1 : t1.size ≤ 140737488351232) (ha1 : InR a1) (hb1 : InR b1) (hc1 : InR c1) (hn1 : InR n1) (ho2 : InR o2) (hs2 : s2.size ≤ 140737488351232) (ht2 : t2.size ≤ 140737488351232) (ha2 : InR a2) (hb2 : InR b2) (hc2 : InR c2) (hn2 : InR n2) (ho3 : InR o3) (hs3 : s3.size ≤ 140737488351232) (ha3 : InR a3) (hb3 : InR b3) (hc3 : InR c3) (hn3 : InR n3) (ho4 : InR o4) (hs4 : s4.size ≤ 140737488351232) (ha4 : InR a4) (hb4 : InR b4) (hc4 : InR c4) (hn4 : InR n4) :
    Calls Try.prog 7 #[.agg #[.int .i64 o1, .string s1, .string t1, .int .i64 a1, .int .i64 b1, .int .i64 c1, .int .i64 n1], .agg #[.int .i64 o2, .string s2, .string t2, .int .i64 a2, .int .i64 b2, .int .i64 c2, .int .i64 n2], .agg #[.int .i64 o3, .string s3, .int .i64 a3, .int .i64 b3, .int .i64 c3, .int .i64 n3], .agg #[.int .i64 o4, .string s4, .int .i64 a4, .int .i64 b4, .int .i64 c4, .int .i64 n4]] w (RetBelow (.bool true) w) := by
  have h1 := fun W => encodeC_any o1 s1 t1 a1 b1 c1 n1 W ho1 (by omega) (by omega) ha1 hb1 hc1 hn1
  have h2 := fun W => encodeC_any o2 s2 t2 a2 b2 c2 n2 W ho2 (by omega) (by omega) ha2 hb2 hc2 hn2
  have h3 := fun W => packR_any o3 s3 a3 b3 c3 n3 W ho3 ha3 hb3 hc3 hn3
  have h4 := fun W => packR_any o4 s4 a4 b4 c4 n4 W ho4 ha4 hb4 hc4 hn4
  have r1 : InR o1 ∧ InR a1 ∧ InR b1 ∧ InR c1 ∧ InR n1 := ⟨ho1, ha1, hb1, hc1, hn1⟩
  have r2 : InR o2 ∧ InR a2 ∧ InR b2 ∧ InR c2 ∧ InR n2 := ⟨ho2, ha2, hb2, hc2, hn2⟩
  have r3 : InR o3 ∧ InR a3 ∧ InR b3 ∧ InR c3 ∧ InR n3 := ⟨ho3, ha3, hb3, hc3, hn3⟩
  have r4 : InR o4 ∧ InR a4 ∧ InR b4 ∧ InR c4 ∧ InR n4 := ⟨ho4, ha4, hb4, hc4, hn4⟩
  clear ho1 hs1 ht1 ha1 hb1 hc1 hn1 ho2 hs2 ht2 ha2 hb2 hc2 hn2 ho3 hs3 ha3 hb3 hc3 hn3 ho4 hs4 ha4 hb4 hc4 hn4
  unfold EncCPost at h1 h2
  unfold PackPost at h3 h4
  cases hm : mayC o1 s1 t1 a1 b1 c1 n1
  · simp only [(encC_no hm).1, (encC_no hm).2] at h1
    cases hm2 : mayC o2 s2 t2 a2 b2 c2 n2
    · simp only [(encC_no hm2).1, (encC_no hm2).2] at h2
      cases hr : mayR o3 s3
      · simp only [(packR_no hr).1, (packR_no hr).2] at h3
        cases hr2 : mayR o4 s4
        · simp only [(packR_no hr2).1, (packR_no hr2).2] at h4
          exact apart_FFFF ⟨#[]⟩ ⟨#[]⟩ ⟨#[]⟩ ⟨#[]⟩ o1 s1 t1 a1 b1 c1 n1 o2 s2 t2 a2 b2 c2 n2 o3 s3 a3 b3 c3 n3 o4 s4 a4 b4 c4 n4 w h1 h2 h3 h4
        · simp only [(packR_yes hr2).1, (packR_yes hr2).2] at h4
          exact apart_FFFT ⟨#[]⟩ ⟨#[]⟩ ⟨#[]⟩ (Nm.str (rIt o4 s4 a4 b4 c4 n4).enc) o1 s1 t1 a1 b1 c1 n1 o2 s2 t2 a2 b2 c2 n2 o3 s3 a3 b3 c3 n3 o4 s4 a4 b4 c4 n4 w h1 h2 h3 h4
      · simp only [(packR_yes hr).1, (packR_yes hr).2] at h3
        cases hr2 : mayR o4 s4
        · simp only [(packR_no hr2).1, (packR_no hr2).2] at h4
          exact apart_FFTF ⟨#[]⟩ ⟨#[]⟩ (Nm.str (rIt o3 s3 a3 b3 c3 n3).enc) ⟨#[]⟩ o1 s1 t1 a1 b1 c1 n1 o2 s2 t2 a2 b2 c2 n2 o3 s3 a3 b3 c3 n3 o4 s4 a4 b4 c4 n4 w h1 h2 h3 h4
        · simp only [(packR_yes hr2).1, (packR_yes hr2).2] at h4
          cases hf : eqR o3 s3 a3 b3 c3 n3 o4 s4 a4 b4 c4 n4
          · skip
            exact apart_FFNE ⟨#[]⟩ ⟨#[]⟩ (Nm.str (rIt o3 s3 a3 b3 c3 n3).enc) (Nm.str (rIt o4 s4 a4 b4 c4 n4).enc) o1 s1 t1 a1 b1 c1 n1 o2 s2 t2 a2 b2 c2 n2 o3 s3 a3 b3 c3 n3 o4 s4 a4 b4 c4 n4 w h1 h2 h3 h4 (str_ne fun e => by rw [rIt_inj r3 r4 hr hr2 e.symm] at hf; cases hf) hf
          · obtain ⟨rfl, rfl, ⟨rfl, rfl, rfl⟩, rfl⟩ := eqR_iff.1 hf
            exact apart_FFEQ ⟨#[]⟩ ⟨#[]⟩ (Nm.str (rIt o3 s3 a3 b3 c3 n3).enc) ⟨#[]⟩ o1 s1 t1 a1 b1 c1 n1 o2 s2 t2 a2 b2 c2 n2 o3 s3 a3 b3 c3 n3 0 ⟨#[]⟩ 0 0 0 0 w h1 h2 h3
    · simp only [(encC_yes hm2).1, (encC_yes hm2).2] at h2
      cases hr : mayR o3 s3
      · simp only [(packR_no hr).1, (packR_no hr).2] at h3
        cases hr2 : mayR o4 s4
        · simp only [(packR_no hr2).1, (packR_no hr2).2] at h4
          exact apart_FTFF ⟨#[]⟩ (Nm.str (cIt o2 s2 t2 a2 b2 c2 n2).enc) ⟨#[]⟩ ⟨#[]⟩ o1 s1 t1 a1 b1 c1 n1 o2 s2 t2 a2 b2 c2 n2 o3 s3 a3 b3 c3 n3 o4 s4 a4 b4 c4 n4 w h1 h2 h3 h4
        · simp only [(packR_yes hr2).1, (packR_yes hr2).2] at h4
          exact apart_FTFT ⟨#[]⟩ (Nm.str (cIt o2 s2 t2 a2 b2 c2 n2).enc) ⟨#[]⟩ (Nm.str (rIt o4 s4 a4 b4 c4 n4).enc) o1 s1 t1 a1 b1 c1 n1 o2 s2 t2 a2 b2 c2 n2 o3 s3 a3 b3 c3 n3 o4 s4 a4 b4 c4 n4 w h1 h2 h3 h4
      · simp only [(packR_yes hr).1, (packR_yes hr).2] at h3
        cases hr2 : mayR o4 s4
        · simp only [(packR_no hr2).1, (packR_no hr2).2] at h4
          exact apart_FTTF ⟨#[]⟩ (Nm.str (cIt o2 s2 t2 a2 b2 c2 n2).enc) (Nm.str (rIt o3 s3 a3 b3 c3 n3).enc) ⟨#[]⟩ o1 s1 t1 a1 b1 c1 n1 o2 s2 t2 a2 b2 c2 n2 o3 s3 a3 b3 c3 n3 o4 s4 a4 b4 c4 n4 w h1 h2 h3 h4
        · simp only [(packR_yes hr2).1, (packR_yes hr2).2] at h4
          cases hf : eqR o3 s3 a3 b3 c3 n3 o4 s4 a4 b4 c4 n4
          · skip
            exact apart_FTNE ⟨#[]⟩ (Nm.str (cIt o2 s2 t2 a2 b2 c2 n2).enc) (Nm.str (rIt o3 s3 a3 b3 c3 n3).enc) (Nm.str (rIt o4 s4 a4 b4 c4 n4).enc) o1 s1 t1 a1 b1 c1 n1 o2 s2 t2 a2 b2 c2 n2 o3 s3 a3 b3 c3 n3 o4 s4 a4 b4 c4 n4 w h1 h2 h3 h4 (str_ne fun e => by rw [rIt_inj r3 r4 hr hr2 e.symm] at hf; cases hf) hf
          · obtain ⟨rfl, rfl, ⟨rfl, rfl, rfl⟩, rfl⟩ := eqR_iff.1 hf
            exact apart_FTEQ ⟨#[]⟩ (Nm.str (cIt o2 s2 t2 a2 b2 c2 n2).enc) (Nm.str (rIt o3 s3 a3 b3 c3 n3).enc) ⟨#[]⟩ o1 s1 t1 a1 b1 c1 n1 o2 s2 t2 a2 b2 c2 n2 o3 s3 a3 b3 c3 n3 0 ⟨#[]⟩ 0 0 0 0 w h1 h2 h3
  · simp only [(encC_yes hm).1, (encC_yes hm).2] at h1
    cases hm2 : mayC o2 s2 t2 a2 b2 c2 n2
    · simp only [(encC_no hm2).1, (encC_no hm2).2] at h2
      cases hr : mayR o3 s3
      · simp only [(packR_no hr).1, (packR_no hr).2] at h3
        cases hr2 : mayR o4 s4
        · simp only [(packR_no hr2).1, (packR_no hr2).2] at h4
          exact apart_TFFF (Nm.str (cIt o1 s1 t1 a1 b1 c1 n1).enc) ⟨#[]⟩ ⟨#[]⟩ ⟨#[]⟩ o1 s1 t1 a1 b1 c1 n1 o2 s2 t2 a2 b2 c2 n2 o3 s3 a3 b3 c3 n3 o4 s4 a4 b4 c4 n4 w h1 h2 h3 h4
        · simp only [(packR_yes hr2).1, (packR_yes hr2).2] at h4
          exact apart_TFFT (Nm.str (cIt o1 s1 t1 a1 b1 c1 n1).enc) ⟨#[]⟩ ⟨#[]⟩ (Nm.str (rIt o4 s4 a4 b4 c4 n4).enc) o1 s1 t1 a1 b1 c1 n1 o2 s2 t2 a2 b2 c2 n2 o3 s3 a3 b3 c3 n3 o4 s4 a4 b4 c4 n4 w h1 h2 h3 h4
      · simp only [(packR_yes hr).1, (packR_yes hr).2] at h3
        cases hr2 : mayR o4 s4
        · simp only [(packR_no hr2).1, (packR_no hr2).2] at h4
          exact apart_TFTF (Nm.str (cIt o1 s1 t1 a1 b1 c1 n1).enc) ⟨#[]⟩ (Nm.str (rIt o3 s3 a3 b3 c3 n3).enc) ⟨#[]⟩ o1 s1 t1 a1 b1 c1 n1 o2 s2 t2 a2 b2 c2 n2 o3 s3 a3 b3 c3 n3 o4 s4 a4 b4 c4 n4 w h1 h2 h3 h4 (str_ne (cr_ne r1 r3 hm hr))
        · simp only [(packR_yes hr2).1, (packR_yes hr2).2] at h4
          cases hf : eqR o3 s3 a3 b3 c3 n3 o4 s4 a4 b4 c4 n4
          · skip
            exact apart_TFNE (Nm.str (cIt o1 s1 t1 a1 b1 c1 n1).enc) ⟨#[]⟩ (Nm.str (rIt o3 s3 a3 b3 c3 n3).enc) (Nm.str (rIt o4 s4 a4 b4 c4 n4).enc) o1 s1 t1 a1 b1 c1 n1 o2 s2 t2 a2 b2 c2 n2 o3 s3 a3 b3 c3 n3 o4 s4 a4 b4 c4 n4 w h1 h2 h3 h4 (str_ne fun e => by rw [rIt_inj r3 r4 hr hr2 e.symm] at hf; cases hf) hf (str_ne (cr_ne r1 r3 hm hr))
          · obtain ⟨rfl, rfl, ⟨rfl, rfl, rfl⟩, rfl⟩ := eqR_iff.1 hf
            exact apart_TFEQ (Nm.str (cIt o1 s1 t1 a1 b1 c1 n1).enc) ⟨#[]⟩ (Nm.str (rIt o3 s3 a3 b3 c3 n3).enc) ⟨#[]⟩ o1 s1 t1 a1 b1 c1 n1 o2 s2 t2 a2 b2 c2 n2 o3 s3 a3 b3 c3 n3 0 ⟨#[]⟩ 0 0 0 0 w h1 h2 h3 (str_ne (cr_ne r1 r3 hm hr))
    · simp only [(encC_yes hm2).1, (encC_yes hm2).2] at h2
      cases he : eqC o1 s1 t1 a1 b1 c1 n1 o2 s2 t2 a2 b2 c2 n2
      · skip
        cases hr : mayR o3 s3
        · simp only [(packR_no hr).1, (packR_no hr).2] at h3
          cases hr2 : mayR o4 s4
          · simp only [(packR_no hr2).1, (packR_no hr2).2] at h4
            exact apart_NEFF (Nm.str (cIt o1 s1 t1 a1 b1 c1 n1).enc) (Nm.str (cIt o2 s2 t2 a2 b2 c2 n2).enc) ⟨#[]⟩ ⟨#[]⟩ o1 s1 t1 a1 b1 c1 n1 o2 s2 t2 a2 b2 c2 n2 o3 s3 a3 b3 c3 n3 o4 s4 a4 b4 c4 n4 w h1 h2 h3 h4 (str_ne fun e => by rw [cIt_inj r1 r2 hm hm2 e.symm] at he; cases he) he
          · simp only [(packR_yes hr2).1, (packR_yes hr2).2] at h4
            exact apart_NEFT (Nm.str (cIt o1 s1 t1 a1 b1 c1 n1).enc) (Nm.str (cIt o2 s2 t2 a2 b2 c2 n2).enc) ⟨#[]⟩ (Nm.str (rIt o4 s4 a4 b4 c4 n4).enc) o1 s1 t1 a1 b1 c1 n1 o2 s2 t2 a2 b2 c2 n2 o3 s3 a3 b3 c3 n3 o4 s4 a4 b4 c4 n4 w h1 h2 h3 h4 (str_ne fun e => by rw [cIt_inj r1 r2 hm hm2 e.symm] at he; cases he) he
        · simp only [(packR_yes hr).1, (packR_yes hr).2] at h3
          cases hr2 : mayR o4 s4
          · simp only [(packR_no hr2).1, (packR_no hr2).2] at h4
            exact apart_NETF (Nm.str (cIt o1 s1 t1 a1 b1 c1 n1).enc) (Nm.str (cIt o2 s2 t2 a2 b2 c2 n2).enc) (Nm.str (rIt o3 s3 a3 b3 c3 n3).enc) ⟨#[]⟩ o1 s1 t1 a1 b1 c1 n1 o2 s2 t2 a2 b2 c2 n2 o3 s3 a3 b3 c3 n3 o4 s4 a4 b4 c4 n4 w h1 h2 h3 h4 (str_ne fun e => by rw [cIt_inj r1 r2 hm hm2 e.symm] at he; cases he) he (str_ne (cr_ne r1 r3 hm hr))
          · simp only [(packR_yes hr2).1, (packR_yes hr2).2] at h4
            cases hf : eqR o3 s3 a3 b3 c3 n3 o4 s4 a4 b4 c4 n4
            · skip
              exact apart_NENE (Nm.str (cIt o1 s1 t1 a1 b1 c1 n1).enc) (Nm.str (cIt o2 s2 t2 a2 b2 c2 n2).enc) (Nm.str (rIt o3 s3 a3 b3 c3 n3).enc) (Nm.str (rIt o4 s4 a4 b4 c4 n4).enc) o1 s1 t1 a1 b1 c1 n1 o2 s2 t2 a2 b2 c2 n2 o3 s3 a3 b3 c3 n3 o4 s4 a4 b4 c4 n4 w h1 h2 h3 h4 (str_ne fun e => by rw [cIt_inj r1 r2 hm hm2 e.symm] at he; cases he) he (str_ne fun e => by rw [rIt_inj r3 r4 hr hr2 e.symm] at hf; cases hf) hf (str_ne (cr_ne r1 r3 hm hr))
            · obtain ⟨rfl, rfl, ⟨rfl, rfl, rfl⟩, rfl⟩ := eqR_iff.1 hf
              exact apart_NEEQ (Nm.str (cIt o1 s1 t1 a1 b1 c1 n1).enc) (Nm.str (cIt o2 s2 t2 a2 b2 c2 n2).enc) (Nm.str (rIt o3 s3 a3 b3 c3 n3).enc) ⟨#[]⟩ o1 s1 t1 a1 b1 c1 n1 o2 s2 t2 a2 b2 c2 n2 o3 s3 a3 b3 c3 n3 0 ⟨#[]⟩ 0 0 0 0 w h1 h2 h3 (str_ne fun e => by rw [cIt_inj r1 r2 hm hm2 e.symm] at he; cases he) he (str_ne (cr_ne r1 r3 hm hr))
      · obtain ⟨rfl, rfl, rfl, ⟨rfl, rfl, rfl⟩, rfl⟩ := eqC_iff.1 he
        cases hr : mayR o3 s3
        · simp only [(packR_no hr).1, (packR_no hr).2] at h3
          cases hr2 : mayR o4 s4
          · simp only [(packR_no hr2).1, (packR_no hr2).2] at h4
            exact apart_EQFF (Nm.str (cIt o1 s1 t1 a1 b1 c1 n1).enc) ⟨#[]⟩ ⟨#[]⟩ ⟨#[]⟩ o1 s1 t1 a1 b1 c1 n1 0 ⟨#[]⟩ ⟨#[]⟩ 0 0 0 0 o3 s3 a3 b3 c3 n3 o4 s4 a4 b4 c4 n4 w h1 h3 h4
          · simp only [(packR_yes hr2).1, (packR_yes hr2).2] at h4
            exact apart_EQFT (Nm.str (cIt o1 s1 t1 a1 b1 c1 n1).enc) ⟨#[]⟩ ⟨#[]⟩ (Nm.str (rIt o4 s4 a4 b4 c4 n4).enc) o1 s1 t1 a1 b1 c1 n1 0 ⟨#[]⟩ ⟨#[]⟩ 0 0 0 0 o3 s3 a3 b3 c3 n3 o4 s4 a4 b4 c4 n4 w h1 h3 h4
        · simp only [(packR_yes hr).1, (packR_yes hr).2] at h3
          cases hr2 : mayR o4 s4
          · simp only [(packR_no hr2).1, (packR_no hr2).2] at h4
            exact apart_EQTF (Nm.str (cIt o1 s1 t1 a1 b1 c1 n1).enc) ⟨#[]⟩ (Nm.str (rIt o3 s3 a3 b3 c3 n3).enc) ⟨#[]⟩ o1 s1 t1 a1 b1 c1 n1 0 ⟨#[]⟩ ⟨#[]⟩ 0 0 0 0 o3 s3 a3 b3 c3 n3 o4 s4 a4 b4 c4 n4 w h1 h3 h4 (str_ne (cr_ne r1 r3 hm hr))
          · simp only [(packR_yes hr2).1, (packR_yes hr2).2] at h4
            cases hf : eqR o3 s3 a3 b3 c3 n3 o4 s4 a4 b4 c4 n4
            · skip
              exact apart_EQNE (Nm.str (cIt o1 s1 t1 a1 b1 c1 n1).enc) ⟨#[]⟩ (Nm.str (rIt o3 s3 a3 b3 c3 n3).enc) (Nm.str (rIt o4 s4 a4 b4 c4 n4).enc) o1 s1 t1 a1 b1 c1 n1 0 ⟨#[]⟩ ⟨#[]⟩ 0 0 0 0 o3 s3 a3 b3 c3 n3 o4 s4 a4 b4 c4 n4 w h1 h3 h4 (str_ne fun e => by rw [rIt_inj r3 r4 hr hr2 e.symm] at hf; cases hf) hf (str_ne (cr_ne r1 r3 hm hr))
            · obtain ⟨rfl, rfl, ⟨rfl, rfl, rfl⟩, rfl⟩ := eqR_iff.1 hf
              exact apart_EQEQ (Nm.str (cIt o1 s1 t1 a1 b1 c1 n1).enc) ⟨#[]⟩ (Nm.str (rIt o3 s3 a3 b3 c3 n3).enc) ⟨#[]⟩ o1 s1 t1 a1 b1 c1 n1 0 ⟨#[]⟩ ⟨#[]⟩ 0 0 0 0 o3 s3 a3 b3 c3 n3 0 ⟨#[]⟩ 0 0 0 0 w h1 h3 (str_ne (cr_ne r1 r3 hm hr))
end Go.Proofs.Ytiedeneglhboiaa
