import Derived.Test.YtiedeneglhboiaaLb
namespace Go.Proofs.Ytiedeneglhboiaa
open Go.RowKit Pl
set_option linter.unusedVariables false
set_option maxRecDepth 20000
set_option maxHeartbeats 1000000 in
theorem apart_FFFF (X1 X2 Y1 Y2 : ByteArray) (o1 : Int) (s1 t1 : ByteArray) (a1 b1 c1 n1 : Int) (o2 : Int) (s2 t2 : ByteArray) (a2 b2 c2 n2 : Int) (o3 : Int) (s3 : ByteArray) (a3 b3 c3 n3 : Int) (o4 : Int) (s4 : ByteArray) (a4 b4 c4 n4 : Int) (w : World)
    (h1 : ∀ W, Calls Try.prog 11 #[.agg #[.int .i64 o1, .string s1, .string t1, .int .i64 a1, .int .i64 b1, .int .i64 c1, .int .i64 n1]] W (RetBelow (.tuple #[.string ⟨#[]⟩, .int .i64 4]) W))
    (h2 : ∀ W, Calls Try.prog 11 #[.agg #[.int .i64 o2, .string s2, .string t2, .int .i64 a2, .int .i64 b2, .int .i64 c2, .int .i64 n2]] W (RetBelow (.tuple #[.string ⟨#[]⟩, .int .i64 4]) W))
    (h3 : ∀ W, Calls Try.prog 21 #[.agg #[.int .i64 o3, .string s3, .int .i64 a3, .int .i64 b3, .int .i64 c3, .int .i64 n3]] W (RetBelow (.tuple #[.string ⟨#[]⟩, .int .i64 4]) W))
    (h4 : ∀ W, Calls Try.prog 21 #[.agg #[.int .i64 o4, .string s4, .int .i64 a4, .int .i64 b4, .int .i64 c4, .int .i64 n4]] W (RetBelow (.tuple #[.string ⟨#[]⟩, .int .i64 4]) W)) :
    Calls Try.prog 7 #[.agg #[.int .i64 o1, .string s1, .string t1, .int .i64 a1, .int .i64 b1, .int .i64 c1, .int .i64 n1], .agg #[.int .i64 o2, .string s2, .string t2, .int .i64 a2, .int .i64 b2, .int .i64 c2, .int .i64 n2], .agg #[.int .i64 o3, .string s3, .int .i64 a3, .int .i64 b3, .int .i64 c3, .int .i64 n3], .agg #[.int .i64 o4, .string s4, .int .i64 a4, .int .i64 b4, .int .i64 c4, .int .i64 n4]] w (RetBelow (.bool true) w) := by
  have H1 := Lib.hid h1
  have H2 := Lib.hid h2
  have H3 := Lib.hid h3
  have H4 := Lib.hid h4
  have HAW := Lib.hid awakeC_any
  clear h1 h2 h3 h4
  obtain ⟨W, hW⟩ : ∃ W, (((w.alloc (.cells #[.int .i64 o1, .string s1, .string t1, .int .i64 a1, .int .i64 b1, .int .i64 c1, .int .i64 n1] 25)).alloc (.cells #[.int .i64 o2, .string s2, .string t2, .int .i64 a2, .int .i64 b2, .int .i64 c2, .int .i64 n2] 25)).alloc (.cells #[.int .i64 o3, .string s3, .int .i64 a3, .int .i64 b3, .int .i64 c3, .int .i64 n3] 34)).alloc (.cells #[.int .i64 o4, .string s4, .int .i64 a4, .int .i64 b4, .int .i64 c4, .int .i64 n4] 34) = W := ⟨_, rfl⟩
  have g0 : W.heap[w.heap.size]? = some (cRowV o1 s1 t1 a1 b1 c1 n1) := by rw [← hW]; exact keepAlloc _ (keepAlloc _ (keepAlloc _ (heap_alloc_new w _)))
  have g1 : W.heap[w.heap.size + 1]? = some (cRowV o2 s2 t2 a2 b2 c2 n2) := by rw [← hW]; exact keepAlloc _ (keepAlloc _ (by rw [show w.heap.size + 1 = (w.alloc (.cells #[.int .i64 o1, .string s1, .string t1, .int .i64 a1, .int .i64 b1, .int .i64 c1, .int .i64 n1] 25)).heap.size from by simp]; exact heap_alloc_new _ _))
  have g2 : W.heap[w.heap.size + 1 + 1]? = some (rRowV o3 s3 a3 b3 c3 n3) := by rw [← hW]; exact keepAlloc _ (by rw [show w.heap.size + 1 + 1 = ((w.alloc (.cells #[.int .i64 o1, .string s1, .string t1, .int .i64 a1, .int .i64 b1, .int .i64 c1, .int .i64 n1] 25)).alloc (.cells #[.int .i64 o2, .string s2, .string t2, .int .i64 a2, .int .i64 b2, .int .i64 c2, .int .i64 n2] 25)).heap.size from by simp]; exact heap_alloc_new _ _)
  have g3 : W.heap[w.heap.size + 1 + 1 + 1]? = some (rRowV o4 s4 a4 b4 c4 n4) := by rw [← hW]; rw [show w.heap.size + 1 + 1 + 1 = (((w.alloc (.cells #[.int .i64 o1, .string s1, .string t1, .int .i64 a1, .int .i64 b1, .int .i64 c1, .int .i64 n1] 25)).alloc (.cells #[.int .i64 o2, .string s2, .string t2, .int .i64 a2, .int .i64 b2, .int .i64 c2, .int .i64 n2] 25)).alloc (.cells #[.int .i64 o3, .string s3, .int .i64 a3, .int .i64 b3, .int .i64 c3, .int .i64 n3] 34)).heap.size from by simp]; exact heap_alloc_new _ _
  have hz : W.heap.size = w.heap.size + 4 := by rw [← hW]; simp
  have HB0 : Hid (Below w.heap.size w W) := Lib.hid (by rw [← hW]; exact ((((Below.refl _ _).alloc (Nat.le_refl _) _).alloc (by simp) _).alloc (by simp; omega) _).alloc (by simp; omega) _)
  have HK0 := Lib.hid (fun V (h : Below W.heap.size W V) => cat_of g0 (by omega) h)
  have HK1 := Lib.hid (fun V (h : Below W.heap.size W V) => cat_of g1 (by omega) h)
  have HK2 := Lib.hid (fun V (h : Below W.heap.size W V) => rat_of g2 (by omega) h)
  have HK3 := Lib.hid (fun V (h : Below W.heap.size W V) => rat_of g3 (by omega) h)
  have HW := Lib.hid hW
  clear hW g0 g1 g2 g3 hz
  have BN := Lib.hid (Below.refl W.heap.size W)
  obtain ⟨kc0, kc1, kc2, kc3, kc4, kc5, kc6⟩ := HK0.out _ BN.out; obtain ⟨kd0, kd1, kd2, kd3, kd4, kd5, kd6⟩ := HK1.out _ BN.out; obtain ⟨ke0, ke1, ke2, ke3, ke4, ke5⟩ := HK2.out _ BN.out; obtain ⟨kf0, kf1, kf2, kf3, kf4, kf5⟩ := HK3.out _ BN.out
  go_enter Try.func7, Try.ntmps7
  go_wp2_with fail
  rw [HW.out]
  go_wp2_with (first
    | (go_at_call 11; (with_reducible refine (H1.out _).mono ?_); rintro e wx ⟨rfl, h⟩; replace BN : Hid (Below W.heap.size W wx) := Lib.hid (BN.out.trans (h.mono BN.out.size)); clear h kc0 kc1 kc2 kc3 kc4 kc5 kc6 kd0 kd1 kd2 kd3 kd4 kd5 kd6 ke0 ke1 ke2 ke3 ke4 ke5 kf0 kf1 kf2 kf3 kf4 kf5; obtain ⟨kc0, kc1, kc2, kc3, kc4, kc5, kc6⟩ := HK0.out _ BN.out; obtain ⟨kd0, kd1, kd2, kd3, kd4, kd5, kd6⟩ := HK1.out _ BN.out; obtain ⟨ke0, ke1, ke2, ke3, ke4, ke5⟩ := HK2.out _ BN.out; obtain ⟨kf0, kf1, kf2, kf3, kf4, kf5⟩ := HK3.out _ BN.out)
    | (go_at_call 11; (with_reducible refine (H2.out _).mono ?_); rintro e wx ⟨rfl, h⟩; replace BN : Hid (Below W.heap.size W wx) := Lib.hid (BN.out.trans (h.mono BN.out.size)); clear h kc0 kc1 kc2 kc3 kc4 kc5 kc6 kd0 kd1 kd2 kd3 kd4 kd5 kd6 ke0 ke1 ke2 ke3 ke4 ke5 kf0 kf1 kf2 kf3 kf4 kf5; obtain ⟨kc0, kc1, kc2, kc3, kc4, kc5, kc6⟩ := HK0.out _ BN.out; obtain ⟨kd0, kd1, kd2, kd3, kd4, kd5, kd6⟩ := HK1.out _ BN.out; obtain ⟨ke0, ke1, ke2, ke3, ke4, ke5⟩ := HK2.out _ BN.out; obtain ⟨kf0, kf1, kf2, kf3, kf4, kf5⟩ := HK3.out _ BN.out)
    | (go_at_call 21; (with_reducible refine (H3.out _).mono ?_); rintro e wx ⟨rfl, h⟩; replace BN : Hid (Below W.heap.size W wx) := Lib.hid (BN.out.trans (h.mono BN.out.size)); clear h kc0 kc1 kc2 kc3 kc4 kc5 kc6 kd0 kd1 kd2 kd3 kd4 kd5 kd6 ke0 ke1 ke2 ke3 ke4 ke5 kf0 kf1 kf2 kf3 kf4 kf5; obtain ⟨kc0, kc1, kc2, kc3, kc4, kc5, kc6⟩ := HK0.out _ BN.out; obtain ⟨kd0, kd1, kd2, kd3, kd4, kd5, kd6⟩ := HK1.out _ BN.out; obtain ⟨ke0, ke1, ke2, ke3, ke4, ke5⟩ := HK2.out _ BN.out; obtain ⟨kf0, kf1, kf2, kf3, kf4, kf5⟩ := HK3.out _ BN.out)
    | (go_at_call 21; (with_reducible refine (H4.out _).mono ?_); rintro e wx ⟨rfl, h⟩; replace BN : Hid (Below W.heap.size W wx) := Lib.hid (BN.out.trans (h.mono BN.out.size)); clear h kc0 kc1 kc2 kc3 kc4 kc5 kc6 kd0 kd1 kd2 kd3 kd4 kd5 kd6 ke0 ke1 ke2 ke3 ke4 ke5 kf0 kf1 kf2 kf3 kf4 kf5; obtain ⟨kc0, kc1, kc2, kc3, kc4, kc5, kc6⟩ := HK0.out _ BN.out; obtain ⟨kd0, kd1, kd2, kd3, kd4, kd5, kd6⟩ := HK1.out _ BN.out; obtain ⟨ke0, ke1, ke2, ke3, ke4, ke5⟩ := HK2.out _ BN.out; obtain ⟨kf0, kf1, kf2, kf3, kf4, kf5⟩ := HK3.out _ BN.out)
    | (go_at_call 10; (with_reducible refine (HAW.out _).mono ?_); rintro e wx ⟨rfl, h⟩; replace BN : Hid (Below W.heap.size W wx) := Lib.hid (BN.out.trans (h.mono BN.out.size)); clear h kc0 kc1 kc2 kc3 kc4 kc5 kc6 kd0 kd1 kd2 kd3 kd4 kd5 kd6 ke0 ke1 ke2 ke3 ke4 ke5 kf0 kf1 kf2 kf3 kf4 kf5; obtain ⟨kc0, kc1, kc2, kc3, kc4, kc5, kc6⟩ := HK0.out _ BN.out; obtain ⟨kd0, kd1, kd2, kd3, kd4, kd5, kd6⟩ := HK1.out _ BN.out; obtain ⟨ke0, ke1, ke2, ke3, ke4, ke5⟩ := HK2.out _ BN.out; obtain ⟨kf0, kf1, kf2, kf3, kf4, kf5⟩ := HK3.out _ BN.out))
  go_ret
  exact ⟨rfl, HB0.out.trans (BN.out.mono HB0.out.size)⟩
set_option maxHeartbeats 1000000 in
theorem apart_FFFT (X1 X2 Y1 Y2 : ByteArray) (o1 : Int) (s1 t1 : ByteArray) (a1 b1 c1 n1 : Int) (o2 : Int) (s2 t2 : ByteArray) (a2 b2 c2 n2 : Int) (o3 : Int) (s3 : ByteArray) (a3 b3 c3 n3 : Int) (o4 : Int) (s4 : ByteArray) (a4 b4 c4 n4 : Int) (w : World)
    (h1 : ∀ W, Calls Try.prog 11 #[.agg #[.int .i64 o1, .string s1, .string t1, .int .i64 a1, .int .i64 b1, .int .i64 c1, .int .i64 n1]] W (RetBelow (.tuple #[.string ⟨#[]⟩, .int .i64 4]) W))
    (h2 : ∀ W, Calls Try.prog 11 #[.agg #[.int .i64 o2, .string s2, .string t2, .int .i64 a2, .int .i64 b2, .int .i64 c2, .int .i64 n2]] W (RetBelow (.tuple #[.string ⟨#[]⟩, .int .i64 4]) W))
    (h3 : ∀ W, Calls Try.prog 21 #[.agg #[.int .i64 o3, .string s3, .int .i64 a3, .int .i64 b3, .int .i64 c3, .int .i64 n3]] W (RetBelow (.tuple #[.string ⟨#[]⟩, .int .i64 4]) W))
    (h4 : ∀ W, Calls Try.prog 21 #[.agg #[.int .i64 o4, .string s4, .int .i64 a4, .int .i64 b4, .int .i64 c4, .int .i64 n4]] W (RetBelow (.tuple #[.string Y2, .int .i64 0]) W)) :
    Calls Try.prog 7 #[.agg #[.int .i64 o1, .string s1, .string t1, .int .i64 a1, .int .i64 b1, .int .i64 c1, .int .i64 n1], .agg #[.int .i64 o2, .string s2, .string t2, .int .i64 a2, .int .i64 b2, .int .i64 c2, .int .i64 n2], .agg #[.int .i64 o3, .string s3, .int .i64 a3, .int .i64 b3, .int .i64 c3, .int .i64 n3], .agg #[.int .i64 o4, .string s4, .int .i64 a4, .int .i64 b4, .int .i64 c4, .int .i64 n4]] w (RetBelow (.bool true) w) := by
  have H1 := Lib.hid h1
  have H2 := Lib.hid h2
  have H3 := Lib.hid h3
  have H4 := Lib.hid h4
  have HAW := Lib.hid awakeC_any
  clear h1 h2 h3 h4
  obtain ⟨W, hW⟩ : ∃ W, (((w.alloc (.cells #[.int .i64 o1, .string s1, .string t1, .int .i64 a1, .int .i64 b1, .int .i64 c1, .int .i64 n1] 25)).alloc (.cells #[.int .i64 o2, .string s2, .string t2, .int .i64 a2, .int .i64 b2, .int .i64 c2, .int .i64 n2] 25)).alloc (.cells #[.int .i64 o3, .string s3, .int .i64 a3, .int .i64 b3, .int .i64 c3, .int .i64 n3] 34)).alloc (.cells #[.int .i64 o4, .string s4, .int .i64 a4, .int .i64 b4, .int .i64 c4, .int .i64 n4] 34) = W := ⟨_, rfl⟩
  have g0 : W.heap[w.heap.size]? = some (cRowV o1 s1 t1 a1 b1 c1 n1) := by rw [← hW]; exact keepAlloc _ (keepAlloc _ (keepAlloc _ (heap_alloc_new w _)))
  have g1 : W.heap[w.heap.size + 1]? = some (cRowV o2 s2 t2 a2 b2 c2 n2) := by rw [← hW]; exact keepAlloc _ (keepAlloc _ (by rw [show w.heap.size + 1 = (w.alloc (.cells #[.int .i64 o1, .string s1, .string t1, .int .i64 a1, .int .i64 b1, .int .i64 c1, .int .i64 n1] 25)).heap.size from by simp]; exact heap_alloc_new _ _))
  have g2 : W.heap[w.heap.size + 1 + 1]? = some (rRowV o3 s3 a3 b3 c3 n3) := by rw [← hW]; exact keepAlloc _ (by rw [show w.heap.size + 1 + 1 = ((w.alloc (.cells #[.int .i64 o1, .string s1, .string t1, .int .i64 a1, .int .i64 b1, .int .i64 c1, .int .i64 n1] 25)).alloc (.cells #[.int .i64 o2, .string s2, .string t2, .int .i64 a2, .int .i64 b2, .int .i64 c2, .int .i64 n2] 25)).heap.size from by simp]; exact heap_alloc_new _ _)
  have g3 : W.heap[w.heap.size + 1 + 1 + 1]? = some (rRowV o4 s4 a4 b4 c4 n4) := by rw [← hW]; rw [show w.heap.size + 1 + 1 + 1 = (((w.alloc (.cells #[.int .i64 o1, .string s1, .string t1, .int .i64 a1, .int .i64 b1, .int .i64 c1, .int .i64 n1] 25)).alloc (.cells #[.int .i64 o2, .string s2, .string t2, .int .i64 a2, .int .i64 b2, .int .i64 c2, .int .i64 n2] 25)).alloc (.cells #[.int .i64 o3, .string s3, .int .i64 a3, .int .i64 b3, .int .i64 c3, .int .i64 n3] 34)).heap.size from by simp]; exact heap_alloc_new _ _
  have hz : W.heap.size = w.heap.size + 4 := by rw [← hW]; simp
  have HB0 : Hid (Below w.heap.size w W) := Lib.hid (by rw [← hW]; exact ((((Below.refl _ _).alloc (Nat.le_refl _) _).alloc (by simp) _).alloc (by simp; omega) _).alloc (by simp; omega) _)
  have HK0 := Lib.hid (fun V (h : Below W.heap.size W V) => cat_of g0 (by omega) h)
  have HK1 := Lib.hid (fun V (h : Below W.heap.size W V) => cat_of g1 (by omega) h)
  have HK2 := Lib.hid (fun V (h : Below W.heap.size W V) => rat_of g2 (by omega) h)
  have HK3 := Lib.hid (fun V (h : Below W.heap.size W V) => rat_of g3 (by omega) h)
  have HW := Lib.hid hW
  clear hW g0 g1 g2 g3 hz
  have BN := Lib.hid (Below.refl W.heap.size W)
  obtain ⟨kc0, kc1, kc2, kc3, kc4, kc5, kc6⟩ := HK0.out _ BN.out; obtain ⟨kd0, kd1, kd2, kd3, kd4, kd5, kd6⟩ := HK1.out _ BN.out; obtain ⟨ke0, ke1, ke2, ke3, ke4, ke5⟩ := HK2.out _ BN.out; obtain ⟨kf0, kf1, kf2, kf3, kf4, kf5⟩ := HK3.out _ BN.out
  go_enter Try.func7, Try.ntmps7
  go_wp2_with fail
  rw [HW.out]
  go_wp2_with (first
    | (go_at_call 11; (with_reducible refine (H1.out _).mono ?_); rintro e wx ⟨rfl, h⟩; replace BN : Hid (Below W.heap.size W wx) := Lib.hid (BN.out.trans (h.mono BN.out.size)); clear h kc0 kc1 kc2 kc3 kc4 kc5 kc6 kd0 kd1 kd2 kd3 kd4 kd5 kd6 ke0 ke1 ke2 ke3 ke4 ke5 kf0 kf1 kf2 kf3 kf4 kf5; obtain ⟨kc0, kc1, kc2, kc3, kc4, kc5, kc6⟩ := HK0.out _ BN.out; obtain ⟨kd0, kd1, kd2, kd3, kd4, kd5, kd6⟩ := HK1.out _ BN.out; obtain ⟨ke0, ke1, ke2, ke3, ke4, ke5⟩ := HK2.out _ BN.out; obtain ⟨kf0, kf1, kf2, kf3, kf4, kf5⟩ := HK3.out _ BN.out)
    | (go_at_call 11; (with_reducible refine (H2.out _).mono ?_); rintro e wx ⟨rfl, h⟩; replace BN : Hid (Below W.heap.size W wx) := Lib.hid (BN.out.trans (h.mono BN.out.size)); clear h kc0 kc1 kc2 kc3 kc4 kc5 kc6 kd0 kd1 kd2 kd3 kd4 kd5 kd6 ke0 ke1 ke2 ke3 ke4 ke5 kf0 kf1 kf2 kf3 kf4 kf5; obtain ⟨kc0, kc1, kc2, kc3, kc4, kc5, kc6⟩ := HK0.out _ BN.out; obtain ⟨kd0, kd1, kd2, kd3, kd4, kd5, kd6⟩ := HK1.out _ BN.out; obtain ⟨ke0, ke1, ke2, ke3, ke4, ke5⟩ := HK2.out _ BN.out; obtain ⟨kf0, kf1, kf2, kf3, kf4, kf5⟩ := HK3.out _ BN.out)
    | (go_at_call 21; (with_reducible refine (H3.out _).mono ?_); rintro e wx ⟨rfl, h⟩; replace BN : Hid (Below W.heap.size W wx) := Lib.hid (BN.out.trans (h.mono BN.out.size)); clear h kc0 kc1 kc2 kc3 kc4 kc5 kc6 kd0 kd1 kd2 kd3 kd4 kd5 kd6 ke0 ke1 ke2 ke3 ke4 ke5 kf0 kf1 kf2 kf3 kf4 kf5; obtain ⟨kc0, kc1, kc2, kc3, kc4, kc5, kc6⟩ := HK0.out _ BN.out; obtain ⟨kd0, kd1, kd2, kd3, kd4, kd5, kd6⟩ := HK1.out _ BN.out; obtain ⟨ke0, ke1, ke2, ke3, ke4, ke5⟩ := HK2.out _ BN.out; obtain ⟨kf0, kf1, kf2, kf3, kf4, kf5⟩ := HK3.out _ BN.out)
    | (go_at_call 21; (with_reducible refine (H4.out _).mono ?_); rintro e wx ⟨rfl, h⟩; replace BN : Hid (Below W.heap.size W wx) := Lib.hid (BN.out.trans (h.mono BN.out.size)); clear h kc0 kc1 kc2 kc3 kc4 kc5 kc6 kd0 kd1 kd2 kd3 kd4 kd5 kd6 ke0 ke1 ke2 ke3 ke4 ke5 kf0 kf1 kf2 kf3 kf4 kf5; obtain ⟨kc0, kc1, kc2, kc3, kc4, kc5, kc6⟩ := HK0.out _ BN.out; obtain ⟨kd0, kd1, kd2, kd3, kd4, kd5, kd6⟩ := HK1.out _ BN.out; obtain ⟨ke0, ke1, ke2, ke3, ke4, ke5⟩ := HK2.out _ BN.out; obtain ⟨kf0, kf1, kf2, kf3, kf4, kf5⟩ := HK3.out _ BN.out)
    | (go_at_call 10; (with_reducible refine (HAW.out _).mono ?_); rintro e wx ⟨rfl, h⟩; replace BN : Hid (Below W.heap.size W wx) := Lib.hid (BN.out.trans (h.mono BN.out.size)); clear h kc0 kc1 kc2 kc3 kc4 kc5 kc6 kd0 kd1 kd2 kd3 kd4 kd5 kd6 ke0 ke1 ke2 ke3 ke4 ke5 kf0 kf1 kf2 kf3 kf4 kf5; obtain ⟨kc0, kc1, kc2, kc3, kc4, kc5, kc6⟩ := HK0.out _ BN.out; obtain ⟨kd0, kd1, kd2, kd3, kd4, kd5, kd6⟩ := HK1.out _ BN.out; obtain ⟨ke0, ke1, ke2, ke3, ke4, ke5⟩ := HK2.out _ BN.out; obtain ⟨kf0, kf1, kf2, kf3, kf4, kf5⟩ := HK3.out _ BN.out))
  go_ret
  exact ⟨rfl, HB0.out.trans (BN.out.mono HB0.out.size)⟩
set_option maxHeartbeats 1000000 in
theorem apart_FFTF (X1 X2 Y1 Y2 : ByteArray) (o1 : Int) (s1 t1 : ByteArray) (a1 b1 c1 n1 : Int) (o2 : Int) (s2 t2 : ByteArray) (a2 b2 c2 n2 : Int) (o3 : Int) (s3 : ByteArray) (a3 b3 c3 n3 : Int) (o4 : Int) (s4 : ByteArray) (a4 b4 c4 n4 : Int) (w : World)
    (h1 : ∀ W, Calls Try.prog 11 #[.agg #[.int .i64 o1, .string s1, .string t1, .int .i64 a1, .int .i64 b1, .int .i64 c1, .int .i64 n1]] W (RetBelow (.tuple #[.string ⟨#[]⟩, .int .i64 4]) W))
    (h2 : ∀ W, Calls Try.prog 11 #[.agg #[.int .i64 o2, .string s2, .string t2, .int .i64 a2, .int .i64 b2, .int .i64 c2, .int .i64 n2]] W (RetBelow (.tuple #[.string ⟨#[]⟩, .int .i64 4]) W))
    (h3 : ∀ W, Calls Try.prog 21 #[.agg #[.int .i64 o3, .string s3, .int .i64 a3, .int .i64 b3, .int .i64 c3, .int .i64 n3]] W (RetBelow (.tuple #[.string Y1, .int .i64 0]) W))
    (h4 : ∀ W, Calls Try.prog 21 #[.agg #[.int .i64 o4, .string s4, .int .i64 a4, .int .i64 b4, .int .i64 c4, .int .i64 n4]] W (RetBelow (.tuple #[.string ⟨#[]⟩, .int .i64 4]) W)) :
    Calls Try.prog 7 #[.agg #[.int .i64 o1, .string s1, .string t1, .int .i64 a1, .int .i64 b1, .int .i64 c1, .int .i64 n1], .agg #[.int .i64 o2, .string s2, .string t2, .int .i64 a2, .int .i64 b2, .int .i64 c2, .int .i64 n2], .agg #[.int .i64 o3, .string s3, .int .i64 a3, .int .i64 b3, .int .i64 c3, .int .i64 n3], .agg #[.int .i64 o4, .string s4, .int .i64 a4, .int .i64 b4, .int .i64 c4, .int .i64 n4]] w (RetBelow (.bool true) w) := by
  have H1 := Lib.hid h1
  have H2 := Lib.hid h2
  have H3 := Lib.hid h3
  have H4 := Lib.hid h4
  have HAW := Lib.hid awakeC_any
  clear h1 h2 h3 h4
  obtain ⟨W, hW⟩ : ∃ W, (((w.alloc (.cells #[.int .i64 o1, .string s1, .string t1, .int .i64 a1, .int .i64 b1, .int .i64 c1, .int .i64 n1] 25)).alloc (.cells #[.int .i64 o2, .string s2, .string t2, .int .i64 a2, .int .i64 b2, .int .i64 c2, .int .i64 n2] 25)).alloc (.cells #[.int .i64 o3, .string s3, .int .i64 a3, .int .i64 b3, .int .i64 c3, .int .i64 n3] 34)).alloc (.cells #[.int .i64 o4, .string s4, .int .i64 a4, .int .i64 b4, .int .i64 c4, .int .i64 n4] 34) = W := ⟨_, rfl⟩
  have g0 : W.heap[w.heap.size]? = some (cRowV o1 s1 t1 a1 b1 c1 n1) := by rw [← hW]; exact keepAlloc _ (keepAlloc _ (keepAlloc _ (heap_alloc_new w _)))
  have g1 : W.heap[w.heap.size + 1]? = some (cRowV o2 s2 t2 a2 b2 c2 n2) := by rw [← hW]; exact keepAlloc _ (keepAlloc _ (by rw [show w.heap.size + 1 = (w.alloc (.cells #[.int .i64 o1, .string s1, .string t1, .int .i64 a1, .int .i64 b1, .int .i64 c1, .int .i64 n1] 25)).heap.size from by simp]; exact heap_alloc_new _ _))
  have g2 : W.heap[w.heap.size + 1 + 1]? = some (rRowV o3 s3 a3 b3 c3 n3) := by rw [← hW]; exact keepAlloc _ (by rw [show w.heap.size + 1 + 1 = ((w.alloc (.cells #[.int .i64 o1, .string s1, .string t1, .int .i64 a1, .int .i64 b1, .int .i64 c1, .int .i64 n1] 25)).alloc (.cells #[.int .i64 o2, .string s2, .string t2, .int .i64 a2, .int .i64 b2, .int .i64 c2, .int .i64 n2] 25)).heap.size from by simp]; exact heap_alloc_new _ _)
  have g3 : W.heap[w.heap.size + 1 + 1 + 1]? = some (rRowV o4 s4 a4 b4 c4 n4) := by rw [← hW]; rw [show w.heap.size + 1 + 1 + 1 = (((w.alloc (.cells #[.int .i64 o1, .string s1, .string t1, .int .i64 a1, .int .i64 b1, .int .i64 c1, .int .i64 n1] 25)).alloc (.cells #[.int .i64 o2, .string s2, .string t2, .int .i64 a2, .int .i64 b2, .int .i64 c2, .int .i64 n2] 25)).alloc (.cells #[.int .i64 o3, .string s3, .int .i64 a3, .int .i64 b3, .int .i64 c3, .int .i64 n3] 34)).heap.size from by simp]; exact heap_alloc_new _ _
  have hz : W.heap.size = w.heap.size + 4 := by rw [← hW]; simp
  have HB0 : Hid (Below w.heap.size w W) := Lib.hid (by rw [← hW]; exact ((((Below.refl _ _).alloc (Nat.le_refl _) _).alloc (by simp) _).alloc (by simp; omega) _).alloc (by simp; omega) _)
  have HK0 := Lib.hid (fun V (h : Below W.heap.size W V) => cat_of g0 (by omega) h)
  have HK1 := Lib.hid (fun V (h : Below W.heap.size W V) => cat_of g1 (by omega) h)
  have HK2 := Lib.hid (fun V (h : Below W.heap.size W V) => rat_of g2 (by omega) h)
  have HK3 := Lib.hid (fun V (h : Below W.heap.size W V) => rat_of g3 (by omega) h)
  have HW := Lib.hid hW
  clear hW g0 g1 g2 g3 hz
  have BN := Lib.hid (Below.refl W.heap.size W)
  obtain ⟨kc0, kc1, kc2, kc3, kc4, kc5, kc6⟩ := HK0.out _ BN.out; obtain ⟨kd0, kd1, kd2, kd3, kd4, kd5, kd6⟩ := HK1.out _ BN.out; obtain ⟨ke0, ke1, ke2, ke3, ke4, ke5⟩ := HK2.out _ BN.out; obtain ⟨kf0, kf1, kf2, kf3, kf4, kf5⟩ := HK3.out _ BN.out
  go_enter Try.func7, Try.ntmps7
  go_wp2_with fail
  rw [HW.out]
  go_wp2_with (first
    | (go_at_call 11; (with_reducible refine (H1.out _).mono ?_); rintro e wx ⟨rfl, h⟩; replace BN : Hid (Below W.heap.size W wx) := Lib.hid (BN.out.trans (h.mono BN.out.size)); clear h kc0 kc1 kc2 kc3 kc4 kc5 kc6 kd0 kd1 kd2 kd3 kd4 kd5 kd6 ke0 ke1 ke2 ke3 ke4 ke5 kf0 kf1 kf2 kf3 kf4 kf5; obtain ⟨kc0, kc1, kc2, kc3, kc4, kc5, kc6⟩ := HK0.out _ BN.out; obtain ⟨kd0, kd1, kd2, kd3, kd4, kd5, kd6⟩ := HK1.out _ BN.out; obtain ⟨ke0, ke1, ke2, ke3, ke4, ke5⟩ := HK2.out _ BN.out; obtain ⟨kf0, kf1, kf2, kf3, kf4, kf5⟩ := HK3.out _ BN.out)
    | (go_at_call 11; (with_reducible refine (H2.out _).mono ?_); rintro e wx ⟨rfl, h⟩; replace BN : Hid (Below W.heap.size W wx) := Lib.hid (BN.out.trans (h.mono BN.out.size)); clear h kc0 kc1 kc2 kc3 kc4 kc5 kc6 kd0 kd1 kd2 kd3 kd4 kd5 kd6 ke0 ke1 ke2 ke3 ke4 ke5 kf0 kf1 kf2 kf3 kf4 kf5; obtain ⟨kc0, kc1, kc2, kc3, kc4, kc5, kc6⟩ := HK0.out _ BN.out; obtain ⟨kd0, kd1, kd2, kd3, kd4, kd5, kd6⟩ := HK1.out _ BN.out; obtain ⟨ke0, ke1, ke2, ke3, ke4, ke5⟩ := HK2.out _ BN.out; obtain ⟨kf0, kf1, kf2, kf3, kf4, kf5⟩ := HK3.out _ BN.out)
    | (go_at_call 21; (with_reducible refine (H3.out _).mono ?_); rintro e wx ⟨rfl, h⟩; replace BN : Hid (Below W.heap.size W wx) := Lib.hid (BN.out.trans (h.mono BN.out.size)); clear h kc0 kc1 kc2 kc3 kc4 kc5 kc6 kd0 kd1 kd2 kd3 kd4 kd5 kd6 ke0 ke1 ke2 ke3 ke4 ke5 kf0 kf1 kf2 kf3 kf4 kf5; obtain ⟨kc0, kc1, kc2, kc3, kc4, kc5, kc6⟩ := HK0.out _ BN.out; obtain ⟨kd0, kd1, kd2, kd3, kd4, kd5, kd6⟩ := HK1.out _ BN.out; obtain ⟨ke0, ke1, ke2, ke3, ke4, ke5⟩ := HK2.out _ BN.out; obtain ⟨kf0, kf1, kf2, kf3, kf4, kf5⟩ := HK3.out _ BN.out)
    | (go_at_call 21; (with_reducible refine (H4.out _).mono ?_); rintro e wx ⟨rfl, h⟩; replace BN : Hid (Below W.heap.size W wx) := Lib.hid (BN.out.trans (h.mono BN.out.size)); clear h kc0 kc1 kc2 kc3 kc4 kc5 kc6 kd0 kd1 kd2 kd3 kd4 kd5 kd6 ke0 ke1 ke2 ke3 ke4 ke5 kf0 kf1 kf2 kf3 kf4 kf5; obtain ⟨kc0, kc1, kc2, kc3, kc4, kc5, kc6⟩ := HK0.out _ BN.out; obtain ⟨kd0, kd1, kd2, kd3, kd4, kd5, kd6⟩ := HK1.out _ BN.out; obtain ⟨ke0, ke1, ke2, ke3, ke4, ke5⟩ := HK2.out _ BN.out; obtain ⟨kf0, kf1, kf2, kf3, kf4, kf5⟩ := HK3.out _ BN.out)
    | (go_at_call 10; (with_reducible refine (HAW.out _).mono ?_); rintro e wx ⟨rfl, h⟩; replace BN : Hid (Below W.heap.size W wx) := Lib.hid (BN.out.trans (h.mono BN.out.size)); clear h kc0 kc1 kc2 kc3 kc4 kc5 kc6 kd0 kd1 kd2 kd3 kd4 kd5 kd6 ke0 ke1 ke2 ke3 ke4 ke5 kf0 kf1 kf2 kf3 kf4 kf5; obtain ⟨kc0, kc1, kc2, kc3, kc4, kc5, kc6⟩ := HK0.out _ BN.out; obtain ⟨kd0, kd1, kd2, kd3, kd4, kd5, kd6⟩ := HK1.out _ BN.out; obtain ⟨ke0, ke1, ke2, ke3, ke4, ke5⟩ := HK2.out _ BN.out; obtain ⟨kf0, kf1, kf2, kf3, kf4, kf5⟩ := HK3.out _ BN.out))
  go_ret
  exact ⟨rfl, HB0.out.trans (BN.out.mono HB0.out.size)⟩
set_option maxHeartbeats 1000000 in
theorem apart_FFEQ (X1 X2 Y1 Y2 : ByteArray) (o1 : Int) (s1 t1 : ByteArray) (a1 b1 c1 n1 : Int) (o2 : Int) (s2 t2 : ByteArray) (a2 b2 c2 n2 : Int) (o3 : Int) (s3 : ByteArray) (a3 b3 c3 n3 : Int) (o4 : Int) (s4 : ByteArray) (a4 b4 c4 n4 : Int) (w : World)
    (h1 : ∀ W, Calls Try.prog 11 #[.agg #[.int .i64 o1, .string s1, .string t1, .int .i64 a1, .int .i64 b1, .int .i64 c1, .int .i64 n1]] W (RetBelow (.tuple #[.string ⟨#[]⟩, .int .i64 4]) W))
    (h2 : ∀ W, Calls Try.prog 11 #[.agg #[.int .i64 o2, .string s2, .string t2, .int .i64 a2, .int .i64 b2, .int .i64 c2, .int .i64 n2]] W (RetBelow (.tuple #[.string ⟨#[]⟩, .int .i64 4]) W))
    (h3 : ∀ W, Calls Try.prog 21 #[.agg #[.int .i64 o3, .string s3, .int .i64 a3, .int .i64 b3, .int .i64 c3, .int .i64 n3]] W (RetBelow (.tuple #[.string Y1, .int .i64 0]) W)) :
    Calls Try.prog 7 #[.agg #[.int .i64 o1, .string s1, .string t1, .int .i64 a1, .int .i64 b1, .int .i64 c1, .int .i64 n1], .agg #[.int .i64 o2, .string s2, .string t2, .int .i64 a2, .int .i64 b2, .int .i64 c2, .int .i64 n2], .agg #[.int .i64 o3, .string s3, .int .i64 a3, .int .i64 b3, .int .i64 c3, .int .i64 n3], .agg #[.int .i64 o3, .string s3, .int .i64 a3, .int .i64 b3, .int .i64 c3, .int .i64 n3]] w (RetBelow (.bool true) w) := by
  have H1 := Lib.hid h1
  have H2 := Lib.hid h2
  have H3 := Lib.hid h3
  have HAW := Lib.hid awakeC_any
  clear h1 h2 h3
  have q2 : ∀ V : World, (binOp .eql 34 (.agg #[.int .i64 o3, .string s3, .int .i64 a3, .int .i64 b3, .int .i64 c3, .int .i64 n3]) (.agg #[.int .i64 o3, .string s3, .int .i64 a3, .int .i64 b3, .int .i64 c3, .int .i64 n3])).run Try.prog V = .ok (.bool true) V := fun V => by rw [eq34v, eqR_self]
  obtain ⟨W, hW⟩ : ∃ W, (((w.alloc (.cells #[.int .i64 o1, .string s1, .string t1, .int .i64 a1, .int .i64 b1, .int .i64 c1, .int .i64 n1] 25)).alloc (.cells #[.int .i64 o2, .string s2, .string t2, .int .i64 a2, .int .i64 b2, .int .i64 c2, .int .i64 n2] 25)).alloc (.cells #[.int .i64 o3, .string s3, .int .i64 a3, .int .i64 b3, .int .i64 c3, .int .i64 n3] 34)).alloc (.cells #[.int .i64 o3, .string s3, .int .i64 a3, .int .i64 b3, .int .i64 c3, .int .i64 n3] 34) = W := ⟨_, rfl⟩
  have g0 : W.heap[w.heap.size]? = some (cRowV o1 s1 t1 a1 b1 c1 n1) := by rw [← hW]; exact keepAlloc _ (keepAlloc _ (keepAlloc _ (heap_alloc_new w _)))
  have g1 : W.heap[w.heap.size + 1]? = some (cRowV o2 s2 t2 a2 b2 c2 n2) := by rw [← hW]; exact keepAlloc _ (keepAlloc _ (by rw [show w.heap.size + 1 = (w.alloc (.cells #[.int .i64 o1, .string s1, .string t1, .int .i64 a1, .int .i64 b1, .int .i64 c1, .int .i64 n1] 25)).heap.size from by simp]; exact heap_alloc_new _ _))
  have g2 : W.heap[w.heap.size + 1 + 1]? = some (rRowV o3 s3 a3 b3 c3 n3) := by rw [← hW]; exact keepAlloc _ (by rw [show w.heap.size + 1 + 1 = ((w.alloc (.cells #[.int .i64 o1, .string s1, .string t1, .int .i64 a1, .int .i64 b1, .int .i64 c1, .int .i64 n1] 25)).alloc (.cells #[.int .i64 o2, .string s2, .string t2, .int .i64 a2, .int .i64 b2, .int .i64 c2, .int .i64 n2] 25)).heap.size from by simp]; exact heap_alloc_new _ _)
  have g3 : W.heap[w.heap.size + 1 + 1 + 1]? = some (rRowV o3 s3 a3 b3 c3 n3) := by rw [← hW]; rw [show w.heap.size + 1 + 1 + 1 = (((w.alloc (.cells #[.int .i64 o1, .string s1, .string t1, .int .i64 a1, .int .i64 b1, .int .i64 c1, .int .i64 n1] 25)).alloc (.cells #[.int .i64 o2, .string s2, .string t2, .int .i64 a2, .int .i64 b2, .int .i64 c2, .int .i64 n2] 25)).alloc (.cells #[.int .i64 o3, .string s3, .int .i64 a3, .int .i64 b3, .int .i64 c3, .int .i64 n3] 34)).heap.size from by simp]; exact heap_alloc_new _ _
  have hz : W.heap.size = w.heap.size + 4 := by rw [← hW]; simp
  have HB0 : Hid (Below w.heap.size w W) := Lib.hid (by rw [← hW]; exact ((((Below.refl _ _).alloc (Nat.le_refl _) _).alloc (by simp) _).alloc (by simp; omega) _).alloc (by simp; omega) _)
  have HK0 := Lib.hid (fun V (h : Below W.heap.size W V) => cat_of g0 (by omega) h)
  have HK1 := Lib.hid (fun V (h : Below W.heap.size W V) => cat_of g1 (by omega) h)
  have HK2 := Lib.hid (fun V (h : Below W.heap.size W V) => rat_of g2 (by omega) h)
  have HK3 := Lib.hid (fun V (h : Below W.heap.size W V) => rat_of g3 (by omega) h)
  have HW := Lib.hid hW
  clear hW g0 g1 g2 g3 hz
  have BN := Lib.hid (Below.refl W.heap.size W)
  obtain ⟨kc0, kc1, kc2, kc3, kc4, kc5, kc6⟩ := HK0.out _ BN.out; obtain ⟨kd0, kd1, kd2, kd3, kd4, kd5, kd6⟩ := HK1.out _ BN.out; obtain ⟨ke0, ke1, ke2, ke3, ke4, ke5⟩ := HK2.out _ BN.out; obtain ⟨kf0, kf1, kf2, kf3, kf4, kf5⟩ := HK3.out _ BN.out
  go_enter Try.func7, Try.ntmps7
  go_wp2_with fail
  rw [HW.out]
  go_wp2_with (first
    | (go_at_call 11; (with_reducible refine (H1.out _).mono ?_); rintro e wx ⟨rfl, h⟩; replace BN : Hid (Below W.heap.size W wx) := Lib.hid (BN.out.trans (h.mono BN.out.size)); clear h kc0 kc1 kc2 kc3 kc4 kc5 kc6 kd0 kd1 kd2 kd3 kd4 kd5 kd6 ke0 ke1 ke2 ke3 ke4 ke5 kf0 kf1 kf2 kf3 kf4 kf5; obtain ⟨kc0, kc1, kc2, kc3, kc4, kc5, kc6⟩ := HK0.out _ BN.out; obtain ⟨kd0, kd1, kd2, kd3, kd4, kd5, kd6⟩ := HK1.out _ BN.out; obtain ⟨ke0, ke1, ke2, ke3, ke4, ke5⟩ := HK2.out _ BN.out; obtain ⟨kf0, kf1, kf2, kf3, kf4, kf5⟩ := HK3.out _ BN.out)
    | (go_at_call 11; (with_reducible refine (H2.out _).mono ?_); rintro e wx ⟨rfl, h⟩; replace BN : Hid (Below W.heap.size W wx) := Lib.hid (BN.out.trans (h.mono BN.out.size)); clear h kc0 kc1 kc2 kc3 kc4 kc5 kc6 kd0 kd1 kd2 kd3 kd4 kd5 kd6 ke0 ke1 ke2 ke3 ke4 ke5 kf0 kf1 kf2 kf3 kf4 kf5; obtain ⟨kc0, kc1, kc2, kc3, kc4, kc5, kc6⟩ := HK0.out _ BN.out; obtain ⟨kd0, kd1, kd2, kd3, kd4, kd5, kd6⟩ := HK1.out _ BN.out; obtain ⟨ke0, ke1, ke2, ke3, ke4, ke5⟩ := HK2.out _ BN.out; obtain ⟨kf0, kf1, kf2, kf3, kf4, kf5⟩ := HK3.out _ BN.out)
    | (go_at_call 21; (with_reducible refine (H3.out _).mono ?_); rintro e wx ⟨rfl, h⟩; replace BN : Hid (Below W.heap.size W wx) := Lib.hid (BN.out.trans (h.mono BN.out.size)); clear h kc0 kc1 kc2 kc3 kc4 kc5 kc6 kd0 kd1 kd2 kd3 kd4 kd5 kd6 ke0 ke1 ke2 ke3 ke4 ke5 kf0 kf1 kf2 kf3 kf4 kf5; obtain ⟨kc0, kc1, kc2, kc3, kc4, kc5, kc6⟩ := HK0.out _ BN.out; obtain ⟨kd0, kd1, kd2, kd3, kd4, kd5, kd6⟩ := HK1.out _ BN.out; obtain ⟨ke0, ke1, ke2, ke3, ke4, ke5⟩ := HK2.out _ BN.out; obtain ⟨kf0, kf1, kf2, kf3, kf4, kf5⟩ := HK3.out _ BN.out)
    | (go_at_call 10; (with_reducible refine (HAW.out _).mono ?_); rintro e wx ⟨rfl, h⟩; replace BN : Hid (Below W.heap.size W wx) := Lib.hid (BN.out.trans (h.mono BN.out.size)); clear h kc0 kc1 kc2 kc3 kc4 kc5 kc6 kd0 kd1 kd2 kd3 kd4 kd5 kd6 ke0 ke1 ke2 ke3 ke4 ke5 kf0 kf1 kf2 kf3 kf4 kf5; obtain ⟨kc0, kc1, kc2, kc3, kc4, kc5, kc6⟩ := HK0.out _ BN.out; obtain ⟨kd0, kd1, kd2, kd3, kd4, kd5, kd6⟩ := HK1.out _ BN.out; obtain ⟨ke0, ke1, ke2, ke3, ke4, ke5⟩ := HK2.out _ BN.out; obtain ⟨kf0, kf1, kf2, kf3, kf4, kf5⟩ := HK3.out _ BN.out))
  go_ret
  exact ⟨rfl, HB0.out.trans (BN.out.mono HB0.out.size)⟩
set_option maxHeartbeats 1000000 in
theorem apart_FFNE (X1 X2 Y1 Y2 : ByteArray) (o1 : Int) (s1 t1 : ByteArray) (a1 b1 c1 n1 : Int) (o2 : Int) (s2 t2 : ByteArray) (a2 b2 c2 n2 : Int) (o3 : Int) (s3 : ByteArray) (a3 b3 c3 n3 : Int) (o4 : Int) (s4 : ByteArray) (a4 b4 c4 n4 : Int) (w : World)
    (h1 : ∀ W, Calls Try.prog 11 #[.agg #[.int .i64 o1, .string s1, .string t1, .int .i64 a1, .int .i64 b1, .int .i64 c1, .int .i64 n1]] W (RetBelow (.tuple #[.string ⟨#[]⟩, .int .i64 4]) W))
    (h2 : ∀ W, Calls Try.prog 11 #[.agg #[.int .i64 o2, .string s2, .string t2, .int .i64 a2, .int .i64 b2, .int .i64 c2, .int .i64 n2]] W (RetBelow (.tuple #[.string ⟨#[]⟩, .int .i64 4]) W))
    (h3 : ∀ W, Calls Try.prog 21 #[.agg #[.int .i64 o3, .string s3, .int .i64 a3, .int .i64 b3, .int .i64 c3, .int .i64 n3]] W (RetBelow (.tuple #[.string Y1, .int .i64 0]) W))
    (h4 : ∀ W, Calls Try.prog 21 #[.agg #[.int .i64 o4, .string s4, .int .i64 a4, .int .i64 b4, .int .i64 c4, .int .i64 n4]] W (RetBelow (.tuple #[.string Y2, .int .i64 0]) W))
    (y1 : (Y1.toList == Y2.toList) = false)
    (y2 : eqR o3 s3 a3 b3 c3 n3 o4 s4 a4 b4 c4 n4 = false) :
    Calls Try.prog 7 #[.agg #[.int .i64 o1, .string s1, .string t1, .int .i64 a1, .int .i64 b1, .int .i64 c1, .int .i64 n1], .agg #[.int .i64 o2, .string s2, .string t2, .int .i64 a2, .int .i64 b2, .int .i64 c2, .int .i64 n2], .agg #[.int .i64 o3, .string s3, .int .i64 a3, .int .i64 b3, .int .i64 c3, .int .i64 n3], .agg #[.int .i64 o4, .string s4, .int .i64 a4, .int .i64 b4, .int .i64 c4, .int .i64 n4]] w (RetBelow (.bool true) w) := by
  have H1 := Lib.hid h1
  have H2 := Lib.hid h2
  have H3 := Lib.hid h3
  have H4 := Lib.hid h4
  have HAW := Lib.hid awakeC_any
  clear h1 h2 h3 h4
  have q2 : ∀ V : World, (binOp .eql 34 (.agg #[.int .i64 o3, .string s3, .int .i64 a3, .int .i64 b3, .int .i64 c3, .int .i64 n3]) (.agg #[.int .i64 o4, .string s4, .int .i64 a4, .int .i64 b4, .int .i64 c4, .int .i64 n4])).run Try.prog V = .ok (.bool false) V := fun V => by rw [eq34v, y2]
  clear y2
  obtain ⟨W, hW⟩ : ∃ W, (((w.alloc (.cells #[.int .i64 o1, .string s1, .string t1, .int .i64 a1, .int .i64 b1, .int .i64 c1, .int .i64 n1] 25)).alloc (.cells #[.int .i64 o2, .string s2, .string t2, .int .i64 a2, .int .i64 b2, .int .i64 c2, .int .i64 n2] 25)).alloc (.cells #[.int .i64 o3, .string s3, .int .i64 a3, .int .i64 b3, .int .i64 c3, .int .i64 n3] 34)).alloc (.cells #[.int .i64 o4, .string s4, .int .i64 a4, .int .i64 b4, .int .i64 c4, .int .i64 n4] 34) = W := ⟨_, rfl⟩
  have g0 : W.heap[w.heap.size]? = some (cRowV o1 s1 t1 a1 b1 c1 n1) := by rw [← hW]; exact keepAlloc _ (keepAlloc _ (keepAlloc _ (heap_alloc_new w _)))
  have g1 : W.heap[w.heap.size + 1]? = some (cRowV o2 s2 t2 a2 b2 c2 n2) := by rw [← hW]; exact keepAlloc _ (keepAlloc _ (by rw [show w.heap.size + 1 = (w.alloc (.cells #[.int .i64 o1, .string s1, .string t1, .int .i64 a1, .int .i64 b1, .int .i64 c1, .int .i64 n1] 25)).heap.size from by simp]; exact heap_alloc_new _ _))
  have g2 : W.heap[w.heap.size + 1 + 1]? = some (rRowV o3 s3 a3 b3 c3 n3) := by rw [← hW]; exact keepAlloc _ (by rw [show w.heap.size + 1 + 1 = ((w.alloc (.cells #[.int .i64 o1, .string s1, .string t1, .int .i64 a1, .int .i64 b1, .int .i64 c1, .int .i64 n1] 25)).alloc (.cells #[.int .i64 o2, .string s2, .string t2, .int .i64 a2, .int .i64 b2, .int .i64 c2, .int .i64 n2] 25)).heap.size from by simp]; exact heap_alloc_new _ _)
  have g3 : W.heap[w.heap.size + 1 + 1 + 1]? = some (rRowV o4 s4 a4 b4 c4 n4) := by rw [← hW]; rw [show w.heap.size + 1 + 1 + 1 = (((w.alloc (.cells #[.int .i64 o1, .string s1, .string t1, .int .i64 a1, .int .i64 b1, .int .i64 c1, .int .i64 n1] 25)).alloc (.cells #[.int .i64 o2, .string s2, .string t2, .int .i64 a2, .int .i64 b2, .int .i64 c2, .int .i64 n2] 25)).alloc (.cells #[.int .i64 o3, .string s3, .int .i64 a3, .int .i64 b3, .int .i64 c3, .int .i64 n3] 34)).heap.size from by simp]; exact heap_alloc_new _ _
  have hz : W.heap.size = w.heap.size + 4 := by rw [← hW]; simp
  have HB0 : Hid (Below w.heap.size w W) := Lib.hid (by rw [← hW]; exact ((((Below.refl _ _).alloc (Nat.le_refl _) _).alloc (by simp) _).alloc (by simp; omega) _).alloc (by simp; omega) _)
  have HK0 := Lib.hid (fun V (h : Below W.heap.size W V) => cat_of g0 (by omega) h)
  have HK1 := Lib.hid (fun V (h : Below W.heap.size W V) => cat_of g1 (by omega) h)
  have HK2 := Lib.hid (fun V (h : Below W.heap.size W V) => rat_of g2 (by omega) h)
  have HK3 := Lib.hid (fun V (h : Below W.heap.size W V) => rat_of g3 (by omega) h)
  have HW := Lib.hid hW
  clear hW g0 g1 g2 g3 hz
  have BN := Lib.hid (Below.refl W.heap.size W)
  obtain ⟨kc0, kc1, kc2, kc3, kc4, kc5, kc6⟩ := HK0.out _ BN.out; obtain ⟨kd0, kd1, kd2, kd3, kd4, kd5, kd6⟩ := HK1.out _ BN.out; obtain ⟨ke0, ke1, ke2, ke3, ke4, ke5⟩ := HK2.out _ BN.out; obtain ⟨kf0, kf1, kf2, kf3, kf4, kf5⟩ := HK3.out _ BN.out
  go_enter Try.func7, Try.ntmps7
  go_wp2_with fail
  rw [HW.out]
  go_wp2_with (first
    | (go_at_call 11; (with_reducible refine (H1.out _).mono ?_); rintro e wx ⟨rfl, h⟩; replace BN : Hid (Below W.heap.size W wx) := Lib.hid (BN.out.trans (h.mono BN.out.size)); clear h kc0 kc1 kc2 kc3 kc4 kc5 kc6 kd0 kd1 kd2 kd3 kd4 kd5 kd6 ke0 ke1 ke2 ke3 ke4 ke5 kf0 kf1 kf2 kf3 kf4 kf5; obtain ⟨kc0, kc1, kc2, kc3, kc4, kc5, kc6⟩ := HK0.out _ BN.out; obtain ⟨kd0, kd1, kd2, kd3, kd4, kd5, kd6⟩ := HK1.out _ BN.out; obtain ⟨ke0, ke1, ke2, ke3, ke4, ke5⟩ := HK2.out _ BN.out; obtain ⟨kf0, kf1, kf2, kf3, kf4, kf5⟩ := HK3.out _ BN.out)
    | (go_at_call 11; (with_reducible refine (H2.out _).mono ?_); rintro e wx ⟨rfl, h⟩; replace BN : Hid (Below W.heap.size W wx) := Lib.hid (BN.out.trans (h.mono BN.out.size)); clear h kc0 kc1 kc2 kc3 kc4 kc5 kc6 kd0 kd1 kd2 kd3 kd4 kd5 kd6 ke0 ke1 ke2 ke3 ke4 ke5 kf0 kf1 kf2 kf3 kf4 kf5; obtain ⟨kc0, kc1, kc2, kc3, kc4, kc5, kc6⟩ := HK0.out _ BN.out; obtain ⟨kd0, kd1, kd2, kd3, kd4, kd5, kd6⟩ := HK1.out _ BN.out; obtain ⟨ke0, ke1, ke2, ke3, ke4, ke5⟩ := HK2.out _ BN.out; obtain ⟨kf0, kf1, kf2, kf3, kf4, kf5⟩ := HK3.out _ BN.out)
    | (go_at_call 21; (with_reducible refine (H3.out _).mono ?_); rintro e wx ⟨rfl, h⟩; replace BN : Hid (Below W.heap.size W wx) := Lib.hid (BN.out.trans (h.mono BN.out.size)); clear h kc0 kc1 kc2 kc3 kc4 kc5 kc6 kd0 kd1 kd2 kd3 kd4 kd5 kd6 ke0 ke1 ke2 ke3 ke4 ke5 kf0 kf1 kf2 kf3 kf4 kf5; obtain ⟨kc0, kc1, kc2, kc3, kc4, kc5, kc6⟩ := HK0.out _ BN.out; obtain ⟨kd0, kd1, kd2, kd3, kd4, kd5, kd6⟩ := HK1.out _ BN.out; obtain ⟨ke0, ke1, ke2, ke3, ke4, ke5⟩ := HK2.out _ BN.out; obtain ⟨kf0, kf1, kf2, kf3, kf4, kf5⟩ := HK3.out _ BN.out)
    | (go_at_call 21; (with_reducible refine (H4.out _).mono ?_); rintro e wx ⟨rfl, h⟩; replace BN : Hid (Below W.heap.size W wx) := Lib.hid (BN.out.trans (h.mono BN.out.size)); clear h kc0 kc1 kc2 kc3 kc4 kc5 kc6 kd0 kd1 kd2 kd3 kd4 kd5 kd6 ke0 ke1 ke2 ke3 ke4 ke5 kf0 kf1 kf2 kf3 kf4 kf5; obtain ⟨kc0, kc1, kc2, kc3, kc4, kc5, kc6⟩ := HK0.out _ BN.out; obtain ⟨kd0, kd1, kd2, kd3, kd4, kd5, kd6⟩ := HK1.out _ BN.out; obtain ⟨ke0, ke1, ke2, ke3, ke4, ke5⟩ := HK2.out _ BN.out; obtain ⟨kf0, kf1, kf2, kf3, kf4, kf5⟩ := HK3.out _ BN.out)
    | (go_at_call 10; (with_reducible refine (HAW.out _).mono ?_); rintro e wx ⟨rfl, h⟩; replace BN : Hid (Below W.heap.size W wx) := Lib.hid (BN.out.trans (h.mono BN.out.size)); clear h kc0 kc1 kc2 kc3 kc4 kc5 kc6 kd0 kd1 kd2 kd3 kd4 kd5 kd6 ke0 ke1 ke2 ke3 ke4 ke5 kf0 kf1 kf2 kf3 kf4 kf5; obtain ⟨kc0, kc1, kc2, kc3, kc4, kc5, kc6⟩ := HK0.out _ BN.out; obtain ⟨kd0, kd1, kd2, kd3, kd4, kd5, kd6⟩ := HK1.out _ BN.out; obtain ⟨ke0, ke1, ke2, ke3, ke4, ke5⟩ := HK2.out _ BN.out; obtain ⟨kf0, kf1, kf2, kf3, kf4, kf5⟩ := HK3.out _ BN.out))
  go_ret
  exact ⟨rfl, HB0.out.trans (BN.out.mono HB0.out.size)⟩
set_option maxHeartbeats 1000000 in
theorem apart_FTFF (X1 X2 Y1 Y2 : ByteArray) (o1 : Int) (s1 t1 : ByteArray) (a1 b1 c1 n1 : Int) (o2 : Int) (s2 t2 : ByteArray) (a2 b2 c2 n2 : Int) (o3 : Int) (s3 : ByteArray) (a3 b3 c3 n3 : Int) (o4 : Int) (s4 : ByteArray) (a4 b4 c4 n4 : Int) (w : World)
    (h1 : ∀ W, Calls Try.prog 11 #[.agg #[.int .i64 o1, .string s1, .string t1, .int .i64 a1, .int .i64 b1, .int .i64 c1, .int .i64 n1]] W (RetBelow (.tuple #[.string ⟨#[]⟩, .int .i64 4]) W))
    (h2 : ∀ W, Calls Try.prog 11 #[.agg #[.int .i64 o2, .string s2, .string t2, .int .i64 a2, .int .i64 b2, .int .i64 c2, .int .i64 n2]] W (RetBelow (.tuple #[.string X2, .int .i64 0]) W))
    (h3 : ∀ W, Calls Try.prog 21 #[.agg #[.int .i64 o3, .string s3, .int .i64 a3, .int .i64 b3, .int .i64 c3, .int .i64 n3]] W (RetBelow (.tuple #[.string ⟨#[]⟩, .int .i64 4]) W))
    (h4 : ∀ W, Calls Try.prog 21 #[.agg #[.int .i64 o4, .string s4, .int .i64 a4, .int .i64 b4, .int .i64 c4, .int .i64 n4]] W (RetBelow (.tuple #[.string ⟨#[]⟩, .int .i64 4]) W)) :
    Calls Try.prog 7 #[.agg #[.int .i64 o1, .string s1, .string t1, .int .i64 a1, .int .i64 b1, .int .i64 c1, .int .i64 n1], .agg #[.int .i64 o2, .string s2, .string t2, .int .i64 a2, .int .i64 b2, .int .i64 c2, .int .i64 n2], .agg #[.int .i64 o3, .string s3, .int .i64 a3, .int .i64 b3, .int .i64 c3, .int .i64 n3], .agg #[.int .i64 o4, .string s4, .int .i64 a4, .int .i64 b4, .int .i64 c4, .int .i64 n4]] w (RetBelow (.bool true) w) := by
  have H1 := Lib.hid h1
  have H2 := Lib.hid h2
  have H3 := Lib.hid h3
  have H4 := Lib.hid h4
  have HAW := Lib.hid awakeC_any
  clear h1 h2 h3 h4
  obtain ⟨W, hW⟩ : ∃ W, (((w.alloc (.cells #[.int .i64 o1, .string s1, .string t1, .int .i64 a1, .int .i64 b1, .int .i64 c1, .int .i64 n1] 25)).alloc (.cells #[.int .i64 o2, .string s2, .string t2, .int .i64 a2, .int .i64 b2, .int .i64 c2, .int .i64 n2] 25)).alloc (.cells #[.int .i64 o3, .string s3, .int .i64 a3, .int .i64 b3, .int .i64 c3, .int .i64 n3] 34)).alloc (.cells #[.int .i64 o4, .string s4, .int .i64 a4, .int .i64 b4, .int .i64 c4, .int .i64 n4] 34) = W := ⟨_, rfl⟩
  have g0 : W.heap[w.heap.size]? = some (cRowV o1 s1 t1 a1 b1 c1 n1) := by rw [← hW]; exact keepAlloc _ (keepAlloc _ (keepAlloc _ (heap_alloc_new w _)))
  have g1 : W.heap[w.heap.size + 1]? = some (cRowV o2 s2 t2 a2 b2 c2 n2) := by rw [← hW]; exact keepAlloc _ (keepAlloc _ (by rw [show w.heap.size + 1 = (w.alloc (.cells #[.int .i64 o1, .string s1, .string t1, .int .i64 a1, .int .i64 b1, .int .i64 c1, .int .i64 n1] 25)).heap.size from by simp]; exact heap_alloc_new _ _))
  have g2 : W.heap[w.heap.size + 1 + 1]? = some (rRowV o3 s3 a3 b3 c3 n3) := by rw [← hW]; exact keepAlloc _ (by rw [show w.heap.size + 1 + 1 = ((w.alloc (.cells #[.int .i64 o1, .string s1, .string t1, .int .i64 a1, .int .i64 b1, .int .i64 c1, .int .i64 n1] 25)).alloc (.cells #[.int .i64 o2, .string s2, .string t2, .int .i64 a2, .int .i64 b2, .int .i64 c2, .int .i64 n2] 25)).heap.size from by simp]; exact heap_alloc_new _ _)
  have g3 : W.heap[w.heap.size + 1 + 1 + 1]? = some (rRowV o4 s4 a4 b4 c4 n4) := by rw [← hW]; rw [show w.heap.size + 1 + 1 + 1 = (((w.alloc (.cells #[.int .i64 o1, .string s1, .string t1, .int .i64 a1, .int .i64 b1, .int .i64 c1, .int .i64 n1] 25)).alloc (.cells #[.int .i64 o2, .string s2, .string t2, .int .i64 a2, .int .i64 b2, .int .i64 c2, .int .i64 n2] 25)).alloc (.cells #[.int .i64 o3, .string s3, .int .i64 a3, .int .i64 b3, .int .i64 c3, .int .i64 n3] 34)).heap.size from by simp]; exact heap_alloc_new _ _
  have hz : W.heap.size = w.heap.size + 4 := by rw [← hW]; simp
  have HB0 : Hid (Below w.heap.size w W) := Lib.hid (by rw [← hW]; exact ((((Below.refl _ _).alloc (Nat.le_refl _) _).alloc (by simp) _).alloc (by simp; omega) _).alloc (by simp; omega) _)
  have HK0 := Lib.hid (fun V (h : Below W.heap.size W V) => cat_of g0 (by omega) h)
  have HK1 := Lib.hid (fun V (h : Below W.heap.size W V) => cat_of g1 (by omega) h)
  have HK2 := Lib.hid (fun V (h : Below W.heap.size W V) => rat_of g2 (by omega) h)
  have HK3 := Lib.hid (fun V (h : Below W.heap.size W V) => rat_of g3 (by omega) h)
  have HW := Lib.hid hW
  clear hW g0 g1 g2 g3 hz
  have BN := Lib.hid (Below.refl W.heap.size W)
  obtain ⟨kc0, kc1, kc2, kc3, kc4, kc5, kc6⟩ := HK0.out _ BN.out; obtain ⟨kd0, kd1, kd2, kd3, kd4, kd5, kd6⟩ := HK1.out _ BN.out; obtain ⟨ke0, ke1, ke2, ke3, ke4, ke5⟩ := HK2.out _ BN.out; obtain ⟨kf0, kf1, kf2, kf3, kf4, kf5⟩ := HK3.out _ BN.out
  go_enter Try.func7, Try.ntmps7
  go_wp2_with fail
  rw [HW.out]
  go_wp2_with (first
    | (go_at_call 11; (with_reducible refine (H1.out _).mono ?_); rintro e wx ⟨rfl, h⟩; replace BN : Hid (Below W.heap.size W wx) := Lib.hid (BN.out.trans (h.mono BN.out.size)); clear h kc0 kc1 kc2 kc3 kc4 kc5 kc6 kd0 kd1 kd2 kd3 kd4 kd5 kd6 ke0 ke1 ke2 ke3 ke4 ke5 kf0 kf1 kf2 kf3 kf4 kf5; obtain ⟨kc0, kc1, kc2, kc3, kc4, kc5, kc6⟩ := HK0.out _ BN.out; obtain ⟨kd0, kd1, kd2, kd3, kd4, kd5, kd6⟩ := HK1.out _ BN.out; obtain ⟨ke0, ke1, ke2, ke3, ke4, ke5⟩ := HK2.out _ BN.out; obtain ⟨kf0, kf1, kf2, kf3, kf4, kf5⟩ := HK3.out _ BN.out)
    | (go_at_call 11; (with_reducible refine (H2.out _).mono ?_); rintro e wx ⟨rfl, h⟩; replace BN : Hid (Below W.heap.size W wx) := Lib.hid (BN.out.trans (h.mono BN.out.size)); clear h kc0 kc1 kc2 kc3 kc4 kc5 kc6 kd0 kd1 kd2 kd3 kd4 kd5 kd6 ke0 ke1 ke2 ke3 ke4 ke5 kf0 kf1 kf2 kf3 kf4 kf5; obtain ⟨kc0, kc1, kc2, kc3, kc4, kc5, kc6⟩ := HK0.out _ BN.out; obtain ⟨kd0, kd1, kd2, kd3, kd4, kd5, kd6⟩ := HK1.out _ BN.out; obtain ⟨ke0, ke1, ke2, ke3, ke4, ke5⟩ := HK2.out _ BN.out; obtain ⟨kf0, kf1, kf2, kf3, kf4, kf5⟩ := HK3.out _ BN.out)
    | (go_at_call 21; (with_reducible refine (H3.out _).mono ?_); rintro e wx ⟨rfl, h⟩; replace BN : Hid (Below W.heap.size W wx) := Lib.hid (BN.out.trans (h.mono BN.out.size)); clear h kc0 kc1 kc2 kc3 kc4 kc5 kc6 kd0 kd1 kd2 kd3 kd4 kd5 kd6 ke0 ke1 ke2 ke3 ke4 ke5 kf0 kf1 kf2 kf3 kf4 kf5; obtain ⟨kc0, kc1, kc2, kc3, kc4, kc5, kc6⟩ := HK0.out _ BN.out; obtain ⟨kd0, kd1, kd2, kd3, kd4, kd5, kd6⟩ := HK1.out _ BN.out; obtain ⟨ke0, ke1, ke2, ke3, ke4, ke5⟩ := HK2.out _ BN.out; obtain ⟨kf0, kf1, kf2, kf3, kf4, kf5⟩ := HK3.out _ BN.out)
    | (go_at_call 21; (with_reducible refine (H4.out _).mono ?_); rintro e wx ⟨rfl, h⟩; replace BN : Hid (Below W.heap.size W wx) := Lib.hid (BN.out.trans (h.mono BN.out.size)); clear h kc0 kc1 kc2 kc3 kc4 kc5 kc6 kd0 kd1 kd2 kd3 kd4 kd5 kd6 ke0 ke1 ke2 ke3 ke4 ke5 kf0 kf1 kf2 kf3 kf4 kf5; obtain ⟨kc0, kc1, kc2, kc3, kc4, kc5, kc6⟩ := HK0.out _ BN.out; obtain ⟨kd0, kd1, kd2, kd3, kd4, kd5, kd6⟩ := HK1.out _ BN.out; obtain ⟨ke0, ke1, ke2, ke3, ke4, ke5⟩ := HK2.out _ BN.out; obtain ⟨kf0, kf1, kf2, kf3, kf4, kf5⟩ := HK3.out _ BN.out)
    | (go_at_call 10; (with_reducible refine (HAW.out _).mono ?_); rintro e wx ⟨rfl, h⟩; replace BN : Hid (Below W.heap.size W wx) := Lib.hid (BN.out.trans (h.mono BN.out.size)); clear h kc0 kc1 kc2 kc3 kc4 kc5 kc6 kd0 kd1 kd2 kd3 kd4 kd5 kd6 ke0 ke1 ke2 ke3 ke4 ke5 kf0 kf1 kf2 kf3 kf4 kf5; obtain ⟨kc0, kc1, kc2, kc3, kc4, kc5, kc6⟩ := HK0.out _ BN.out; obtain ⟨kd0, kd1, kd2, kd3, kd4, kd5, kd6⟩ := HK1.out _ BN.out; obtain ⟨ke0, ke1, ke2, ke3, ke4, ke5⟩ := HK2.out _ BN.out; obtain ⟨kf0, kf1, kf2, kf3, kf4, kf5⟩ := HK3.out _ BN.out))
  go_ret
  exact ⟨rfl, HB0.out.trans (BN.out.mono HB0.out.size)⟩
set_option maxHeartbeats 1000000 in
theorem apart_FTFT (X1 X2 Y1 Y2 : ByteArray) (o1 : Int) (s1 t1 : ByteArray) (a1 b1 c1 n1 : Int) (o2 : Int) (s2 t2 : ByteArray) (a2 b2 c2 n2 : Int) (o3 : Int) (s3 : ByteArray) (a3 b3 c3 n3 : Int) (o4 : Int) (s4 : ByteArray) (a4 b4 c4 n4 : Int) (w : World)
    (h1 : ∀ W, Calls Try.prog 11 #[.agg #[.int .i64 o1, .string s1, .string t1, .int .i64 a1, .int .i64 b1, .int .i64 c1, .int .i64 n1]] W (RetBelow (.tuple #[.string ⟨#[]⟩, .int .i64 4]) W))
    (h2 : ∀ W, Calls Try.prog 11 #[.agg #[.int .i64 o2, .string s2, .string t2, .int .i64 a2, .int .i64 b2, .int .i64 c2, .int .i64 n2]] W (RetBelow (.tuple #[.string X2, .int .i64 0]) W))
    (h3 : ∀ W, Calls Try.prog 21 #[.agg #[.int .i64 o3, .string s3, .int .i64 a3, .int .i64 b3, .int .i64 c3, .int .i64 n3]] W (RetBelow (.tuple #[.string ⟨#[]⟩, .int .i64 4]) W))
    (h4 : ∀ W, Calls Try.prog 21 #[.agg #[.int .i64 o4, .string s4, .int .i64 a4, .int .i64 b4, .int .i64 c4, .int .i64 n4]] W (RetBelow (.tuple #[.string Y2, .int .i64 0]) W)) :
    Calls Try.prog 7 #[.agg #[.int .i64 o1, .string s1, .string t1, .int .i64 a1, .int .i64 b1, .int .i64 c1, .int .i64 n1], .agg #[.int .i64 o2, .string s2, .string t2, .int .i64 a2, .int .i64 b2, .int .i64 c2, .int .i64 n2], .agg #[.int .i64 o3, .string s3, .int .i64 a3, .int .i64 b3, .int .i64 c3, .int .i64 n3], .agg #[.int .i64 o4, .string s4, .int .i64 a4, .int .i64 b4, .int .i64 c4, .int .i64 n4]] w (RetBelow (.bool true) w) := by
  have H1 := Lib.hid h1
  have H2 := Lib.hid h2
  have H3 := Lib.hid h3
  have H4 := Lib.hid h4
  have HAW := Lib.hid awakeC_any
  clear h1 h2 h3 h4
  obtain ⟨W, hW⟩ : ∃ W, (((w.alloc (.cells #[.int .i64 o1, .string s1, .string t1, .int .i64 a1, .int .i64 b1, .int .i64 c1, .int .i64 n1] 25)).alloc (.cells #[.int .i64 o2, .string s2, .string t2, .int .i64 a2, .int .i64 b2, .int .i64 c2, .int .i64 n2] 25)).alloc (.cells #[.int .i64 o3, .string s3, .int .i64 a3, .int .i64 b3, .int .i64 c3, .int .i64 n3] 34)).alloc (.cells #[.int .i64 o4, .string s4, .int .i64 a4, .int .i64 b4, .int .i64 c4, .int .i64 n4] 34) = W := ⟨_, rfl⟩
  have g0 : W.heap[w.heap.size]? = some (cRowV o1 s1 t1 a1 b1 c1 n1) := by rw [← hW]; exact keepAlloc _ (keepAlloc _ (keepAlloc _ (heap_alloc_new w _)))
  have g1 : W.heap[w.heap.size + 1]? = some (cRowV o2 s2 t2 a2 b2 c2 n2) := by rw [← hW]; exact keepAlloc _ (keepAlloc _ (by rw [show w.heap.size + 1 = (w.alloc (.cells #[.int .i64 o1, .string s1, .string t1, .int .i64 a1, .int .i64 b1, .int .i64 c1, .int .i64 n1] 25)).heap.size from by simp]; exact heap_alloc_new _ _))
  have g2 : W.heap[w.heap.size + 1 + 1]? = some (rRowV o3 s3 a3 b3 c3 n3) := by rw [← hW]; exact keepAlloc _ (by rw [show w.heap.size + 1 + 1 = ((w.alloc (.cells #[.int .i64 o1, .string s1, .string t1, .int .i64 a1, .int .i64 b1, .int .i64 c1, .int .i64 n1] 25)).alloc (.cells #[.int .i64 o2, .string s2, .string t2, .int .i64 a2, .int .i64 b2, .int .i64 c2, .int .i64 n2] 25)).heap.size from by simp]; exact heap_alloc_new _ _)
  have g3 : W.heap[w.heap.size + 1 + 1 + 1]? = some (rRowV o4 s4 a4 b4 c4 n4) := by rw [← hW]; rw [show w.heap.size + 1 + 1 + 1 = (((w.alloc (.cells #[.int .i64 o1, .string s1, .string t1, .int .i64 a1, .int .i64 b1, .int .i64 c1, .int .i64 n1] 25)).alloc (.cells #[.int .i64 o2, .string s2, .string t2, .int .i64 a2, .int .i64 b2, .int .i64 c2, .int .i64 n2] 25)).alloc (.cells #[.int .i64 o3, .string s3, .int .i64 a3, .int .i64 b3, .int .i64 c3, .int .i64 n3] 34)).heap.size from by simp]; exact heap_alloc_new _ _
  have hz : W.heap.size = w.heap.size + 4 := by rw [← hW]; simp
  have HB0 : Hid (Below w.heap.size w W) := Lib.hid (by rw [← hW]; exact ((((Below.refl _ _).alloc (Nat.le_refl _) _).alloc (by simp) _).alloc (by simp; omega) _).alloc (by simp; omega) _)
  have HK0 := Lib.hid (fun V (h : Below W.heap.size W V) => cat_of g0 (by omega) h)
  have HK1 := Lib.hid (fun V (h : Below W.heap.size W V) => cat_of g1 (by omega) h)
  have HK2 := Lib.hid (fun V (h : Below W.heap.size W V) => rat_of g2 (by omega) h)
  have HK3 := Lib.hid (fun V (h : Below W.heap.size W V) => rat_of g3 (by omega) h)
  have HW := Lib.hid hW
  clear hW g0 g1 g2 g3 hz
  have BN := Lib.hid (Below.refl W.heap.size W)
  obtain ⟨kc0, kc1, kc2, kc3, kc4, kc5, kc6⟩ := HK0.out _ BN.out; obtain ⟨kd0, kd1, kd2, kd3, kd4, kd5, kd6⟩ := HK1.out _ BN.out; obtain ⟨ke0, ke1, ke2, ke3, ke4, ke5⟩ := HK2.out _ BN.out; obtain ⟨kf0, kf1, kf2, kf3, kf4, kf5⟩ := HK3.out _ BN.out
  go_enter Try.func7, Try.ntmps7
  go_wp2_with fail
  rw [HW.out]
  go_wp2_with (first
    | (go_at_call 11; (with_reducible refine (H1.out _).mono ?_); rintro e wx ⟨rfl, h⟩; replace BN : Hid (Below W.heap.size W wx) := Lib.hid (BN.out.trans (h.mono BN.out.size)); clear h kc0 kc1 kc2 kc3 kc4 kc5 kc6 kd0 kd1 kd2 kd3 kd4 kd5 kd6 ke0 ke1 ke2 ke3 ke4 ke5 kf0 kf1 kf2 kf3 kf4 kf5; obtain ⟨kc0, kc1, kc2, kc3, kc4, kc5, kc6⟩ := HK0.out _ BN.out; obtain ⟨kd0, kd1, kd2, kd3, kd4, kd5, kd6⟩ := HK1.out _ BN.out; obtain ⟨ke0, ke1, ke2, ke3, ke4, ke5⟩ := HK2.out _ BN.out; obtain ⟨kf0, kf1, kf2, kf3, kf4, kf5⟩ := HK3.out _ BN.out)
    | (go_at_call 11; (with_reducible refine (H2.out _).mono ?_); rintro e wx ⟨rfl, h⟩; replace BN : Hid (Below W.heap.size W wx) := Lib.hid (BN.out.trans (h.mono BN.out.size)); clear h kc0 kc1 kc2 kc3 kc4 kc5 kc6 kd0 kd1 kd2 kd3 kd4 kd5 kd6 ke0 ke1 ke2 ke3 ke4 ke5 kf0 kf1 kf2 kf3 kf4 kf5; obtain ⟨kc0, kc1, kc2, kc3, kc4, kc5, kc6⟩ := HK0.out _ BN.out; obtain ⟨kd0, kd1, kd2, kd3, kd4, kd5, kd6⟩ := HK1.out _ BN.out; obtain ⟨ke0, ke1, ke2, ke3, ke4, ke5⟩ := HK2.out _ BN.out; obtain ⟨kf0, kf1, kf2, kf3, kf4, kf5⟩ := HK3.out _ BN.out)
    | (go_at_call 21; (with_reducible refine (H3.out _).mono ?_); rintro e wx ⟨rfl, h⟩; replace BN : Hid (Below W.heap.size W wx) := Lib.hid (BN.out.trans (h.mono BN.out.size)); clear h kc0 kc1 kc2 kc3 kc4 kc5 kc6 kd0 kd1 kd2 kd3 kd4 kd5 kd6 ke0 ke1 ke2 ke3 ke4 ke5 kf0 kf1 kf2 kf3 kf4 kf5; obtain ⟨kc0, kc1, kc2, kc3, kc4, kc5, kc6⟩ := HK0.out _ BN.out; obtain ⟨kd0, kd1, kd2, kd3, kd4, kd5, kd6⟩ := HK1.out _ BN.out; obtain ⟨ke0, ke1, ke2, ke3, ke4, ke5⟩ := HK2.out _ BN.out; obtain ⟨kf0, kf1, kf2, kf3, kf4, kf5⟩ := HK3.out _ BN.out)
    | (go_at_call 21; (with_reducible refine (H4.out _).mono ?_); rintro e wx ⟨rfl, h⟩; replace BN : Hid (Below W.heap.size W wx) := Lib.hid (BN.out.trans (h.mono BN.out.size)); clear h kc0 kc1 kc2 kc3 kc4 kc5 kc6 kd0 kd1 kd2 kd3 kd4 kd5 kd6 ke0 ke1 ke2 ke3 ke4 ke5 kf0 kf1 kf2 kf3 kf4 kf5; obtain ⟨kc0, kc1, kc2, kc3, kc4, kc5, kc6⟩ := HK0.out _ BN.out; obtain ⟨kd0, kd1, kd2, kd3, kd4, kd5, kd6⟩ := HK1.out _ BN.out; obtain ⟨ke0, ke1, ke2, ke3, ke4, ke5⟩ := HK2.out _ BN.out; obtain ⟨kf0, kf1, kf2, kf3, kf4, kf5⟩ := HK3.out _ BN.out)
    | (go_at_call 10; (with_reducible refine (HAW.out _).mono ?_); rintro e wx ⟨rfl, h⟩; replace BN : Hid (Below W.heap.size W wx) := Lib.hid (BN.out.trans (h.mono BN.out.size)); clear h kc0 kc1 kc2 kc3 kc4 kc5 kc6 kd0 kd1 kd2 kd3 kd4 kd5 kd6 ke0 ke1 ke2 ke3 ke4 ke5 kf0 kf1 kf2 kf3 kf4 kf5; obtain ⟨kc0, kc1, kc2, kc3, kc4, kc5, kc6⟩ := HK0.out _ BN.out; obtain ⟨kd0, kd1, kd2, kd3, kd4, kd5, kd6⟩ := HK1.out _ BN.out; obtain ⟨ke0, ke1, ke2, ke3, ke4, ke5⟩ := HK2.out _ BN.out; obtain ⟨kf0, kf1, kf2, kf3, kf4, kf5⟩ := HK3.out _ BN.out))
  go_ret
  exact ⟨rfl, HB0.out.trans (BN.out.mono HB0.out.size)⟩
set_option maxHeartbeats 1000000 in
theorem apart_FTTF (X1 X2 Y1 Y2 : ByteArray) (o1 : Int) (s1 t1 : ByteArray) (a1 b1 c1 n1 : Int) (o2 : Int) (s2 t2 : ByteArray) (a2 b2 c2 n2 : Int) (o3 : Int) (s3 : ByteArray) (a3 b3 c3 n3 : Int) (o4 : Int) (s4 : ByteArray) (a4 b4 c4 n4 : Int) (w : World)
    (h1 : ∀ W, Calls Try.prog 11 #[.agg #[.int .i64 o1, .string s1, .string t1, .int .i64 a1, .int .i64 b1, .int .i64 c1, .int .i64 n1]] W (RetBelow (.tuple #[.string ⟨#[]⟩, .int .i64 4]) W))
    (h2 : ∀ W, Calls Try.prog 11 #[.agg #[.int .i64 o2, .string s2, .string t2, .int .i64 a2, .int .i64 b2, .int .i64 c2, .int .i64 n2]] W (RetBelow (.tuple #[.string X2, .int .i64 0]) W))
    (h3 : ∀ W, Calls Try.prog 21 #[.agg #[.int .i64 o3, .string s3, .int .i64 a3, .int .i64 b3, .int .i64 c3, .int .i64 n3]] W (RetBelow (.tuple #[.string Y1, .int .i64 0]) W))
    (h4 : ∀ W, Calls Try.prog 21 #[.agg #[.int .i64 o4, .string s4, .int .i64 a4, .int .i64 b4, .int .i64 c4, .int .i64 n4]] W (RetBelow (.tuple #[.string ⟨#[]⟩, .int .i64 4]) W)) :
    Calls Try.prog 7 #[.agg #[.int .i64 o1, .string s1, .string t1, .int .i64 a1, .int .i64 b1, .int .i64 c1, .int .i64 n1], .agg #[.int .i64 o2, .string s2, .string t2, .int .i64 a2, .int .i64 b2, .int .i64 c2, .int .i64 n2], .agg #[.int .i64 o3, .string s3, .int .i64 a3, .int .i64 b3, .int .i64 c3, .int .i64 n3], .agg #[.int .i64 o4, .string s4, .int .i64 a4, .int .i64 b4, .int .i64 c4, .int .i64 n4]] w (RetBelow (.bool true) w) := by
  have H1 := Lib.hid h1
  have H2 := Lib.hid h2
  have H3 := Lib.hid h3
  have H4 := Lib.hid h4
  have HAW := Lib.hid awakeC_any
  clear h1 h2 h3 h4
  obtain ⟨W, hW⟩ : ∃ W, (((w.alloc (.cells #[.int .i64 o1, .string s1, .string t1, .int .i64 a1, .int .i64 b1, .int .i64 c1, .int .i64 n1] 25)).alloc (.cells #[.int .i64 o2, .string s2, .string t2, .int .i64 a2, .int .i64 b2, .int .i64 c2, .int .i64 n2] 25)).alloc (.cells #[.int .i64 o3, .string s3, .int .i64 a3, .int .i64 b3, .int .i64 c3, .int .i64 n3] 34)).alloc (.cells #[.int .i64 o4, .string s4, .int .i64 a4, .int .i64 b4, .int .i64 c4, .int .i64 n4] 34) = W := ⟨_, rfl⟩
  have g0 : W.heap[w.heap.size]? = some (cRowV o1 s1 t1 a1 b1 c1 n1) := by rw [← hW]; exact keepAlloc _ (keepAlloc _ (keepAlloc _ (heap_alloc_new w _)))
  have g1 : W.heap[w.heap.size + 1]? = some (cRowV o2 s2 t2 a2 b2 c2 n2) := by rw [← hW]; exact keepAlloc _ (keepAlloc _ (by rw [show w.heap.size + 1 = (w.alloc (.cells #[.int .i64 o1, .string s1, .string t1, .int .i64 a1, .int .i64 b1, .int .i64 c1, .int .i64 n1] 25)).heap.size from by simp]; exact heap_alloc_new _ _))
  have g2 : W.heap[w.heap.size + 1 + 1]? = some (rRowV o3 s3 a3 b3 c3 n3) := by rw [← hW]; exact keepAlloc _ (by rw [show w.heap.size + 1 + 1 = ((w.alloc (.cells #[.int .i64 o1, .string s1, .string t1, .int .i64 a1, .int .i64 b1, .int .i64 c1, .int .i64 n1] 25)).alloc (.cells #[.int .i64 o2, .string s2, .string t2, .int .i64 a2, .int .i64 b2, .int .i64 c2, .int .i64 n2] 25)).heap.size from by simp]; exact heap_alloc_new _ _)
  have g3 : W.heap[w.heap.size + 1 + 1 + 1]? = some (rRowV o4 s4 a4 b4 c4 n4) := by rw [← hW]; rw [show w.heap.size + 1 + 1 + 1 = (((w.alloc (.cells #[.int .i64 o1, .string s1, .string t1, .int .i64 a1, .int .i64 b1, .int .i64 c1, .int .i64 n1] 25)).alloc (.cells #[.int .i64 o2, .string s2, .string t2, .int .i64 a2, .int .i64 b2, .int .i64 c2, .int .i64 n2] 25)).alloc (.cells #[.int .i64 o3, .string s3, .int .i64 a3, .int .i64 b3, .int .i64 c3, .int .i64 n3] 34)).heap.size from by simp]; exact heap_alloc_new _ _
  have hz : W.heap.size = w.heap.size + 4 := by rw [← hW]; simp
  have HB0 : Hid (Below w.heap.size w W) := Lib.hid (by rw [← hW]; exact ((((Below.refl _ _).alloc (Nat.le_refl _) _).alloc (by simp) _).alloc (by simp; omega) _).alloc (by simp; omega) _)
  have HK0 := Lib.hid (fun V (h : Below W.heap.size W V) => cat_of g0 (by omega) h)
  have HK1 := Lib.hid (fun V (h : Below W.heap.size W V) => cat_of g1 (by omega) h)
  have HK2 := Lib.hid (fun V (h : Below W.heap.size W V) => rat_of g2 (by omega) h)
  have HK3 := Lib.hid (fun V (h : Below W.heap.size W V) => rat_of g3 (by omega) h)
  have HW := Lib.hid hW
  clear hW g0 g1 g2 g3 hz
  have BN := Lib.hid (Below.refl W.heap.size W)
  obtain ⟨kc0, kc1, kc2, kc3, kc4, kc5, kc6⟩ := HK0.out _ BN.out; obtain ⟨kd0, kd1, kd2, kd3, kd4, kd5, kd6⟩ := HK1.out _ BN.out; obtain ⟨ke0, ke1, ke2, ke3, ke4, ke5⟩ := HK2.out _ BN.out; obtain ⟨kf0, kf1, kf2, kf3, kf4, kf5⟩ := HK3.out _ BN.out
  go_enter Try.func7, Try.ntmps7
  go_wp2_with fail
  rw [HW.out]
  go_wp2_with (first
    | (go_at_call 11; (with_reducible refine (H1.out _).mono ?_); rintro e wx ⟨rfl, h⟩; replace BN : Hid (Below W.heap.size W wx) := Lib.hid (BN.out.trans (h.mono BN.out.size)); clear h kc0 kc1 kc2 kc3 kc4 kc5 kc6 kd0 kd1 kd2 kd3 kd4 kd5 kd6 ke0 ke1 ke2 ke3 ke4 ke5 kf0 kf1 kf2 kf3 kf4 kf5; obtain ⟨kc0, kc1, kc2, kc3, kc4, kc5, kc6⟩ := HK0.out _ BN.out; obtain ⟨kd0, kd1, kd2, kd3, kd4, kd5, kd6⟩ := HK1.out _ BN.out; obtain ⟨ke0, ke1, ke2, ke3, ke4, ke5⟩ := HK2.out _ BN.out; obtain ⟨kf0, kf1, kf2, kf3, kf4, kf5⟩ := HK3.out _ BN.out)
    | (go_at_call 11; (with_reducible refine (H2.out _).mono ?_); rintro e wx ⟨rfl, h⟩; replace BN : Hid (Below W.heap.size W wx) := Lib.hid (BN.out.trans (h.mono BN.out.size)); clear h kc0 kc1 kc2 kc3 kc4 kc5 kc6 kd0 kd1 kd2 kd3 kd4 kd5 kd6 ke0 ke1 ke2 ke3 ke4 ke5 kf0 kf1 kf2 kf3 kf4 kf5; obtain ⟨kc0, kc1, kc2, kc3, kc4, kc5, kc6⟩ := HK0.out _ BN.out; obtain ⟨kd0, kd1, kd2, kd3, kd4, kd5, kd6⟩ := HK1.out _ BN.out; obtain ⟨ke0, ke1, ke2, ke3, ke4, ke5⟩ := HK2.out _ BN.out; obtain ⟨kf0, kf1, kf2, kf3, kf4, kf5⟩ := HK3.out _ BN.out)
    | (go_at_call 21; (with_reducible refine (H3.out _).mono ?_); rintro e wx ⟨rfl, h⟩; replace BN : Hid (Below W.heap.size W wx) := Lib.hid (BN.out.trans (h.mono BN.out.size)); clear h kc0 kc1 kc2 kc3 kc4 kc5 kc6 kd0 kd1 kd2 kd3 kd4 kd5 kd6 ke0 ke1 ke2 ke3 ke4 ke5 kf0 kf1 kf2 kf3 kf4 kf5; obtain ⟨kc0, kc1, kc2, kc3, kc4, kc5, kc6⟩ := HK0.out _ BN.out; obtain ⟨kd0, kd1, kd2, kd3, kd4, kd5, kd6⟩ := HK1.out _ BN.out; obtain ⟨ke0, ke1, ke2, ke3, ke4, ke5⟩ := HK2.out _ BN.out; obtain ⟨kf0, kf1, kf2, kf3, kf4, kf5⟩ := HK3.out _ BN.out)
    | (go_at_call 21; (with_reducible refine (H4.out _).mono ?_); rintro e wx ⟨rfl, h⟩; replace BN : Hid (Below W.heap.size W wx) := Lib.hid (BN.out.trans (h.mono BN.out.size)); clear h kc0 kc1 kc2 kc3 kc4 kc5 kc6 kd0 kd1 kd2 kd3 kd4 kd5 kd6 ke0 ke1 ke2 ke3 ke4 ke5 kf0 kf1 kf2 kf3 kf4 kf5; obtain ⟨kc0, kc1, kc2, kc3, kc4, kc5, kc6⟩ := HK0.out _ BN.out; obtain ⟨kd0, kd1, kd2, kd3, kd4, kd5, kd6⟩ := HK1.out _ BN.out; obtain ⟨ke0, ke1, ke2, ke3, ke4, ke5⟩ := HK2.out _ BN.out; obtain ⟨kf0, kf1, kf2, kf3, kf4, kf5⟩ := HK3.out _ BN.out)
    | (go_at_call 10; (with_reducible refine (HAW.out _).mono ?_); rintro e wx ⟨rfl, h⟩; replace BN : Hid (Below W.heap.size W wx) := Lib.hid (BN.out.trans (h.mono BN.out.size)); clear h kc0 kc1 kc2 kc3 kc4 kc5 kc6 kd0 kd1 kd2 kd3 kd4 kd5 kd6 ke0 ke1 ke2 ke3 ke4 ke5 kf0 kf1 kf2 kf3 kf4 kf5; obtain ⟨kc0, kc1, kc2, kc3, kc4, kc5, kc6⟩ := HK0.out _ BN.out; obtain ⟨kd0, kd1, kd2, kd3, kd4, kd5, kd6⟩ := HK1.out _ BN.out; obtain ⟨ke0, ke1, ke2, ke3, ke4, ke5⟩ := HK2.out _ BN.out; obtain ⟨kf0, kf1, kf2, kf3, kf4, kf5⟩ := HK3.out _ BN.out))
  go_ret
  exact ⟨rfl, HB0.out.trans (BN.out.mono HB0.out.size)⟩
set_option maxHeartbeats 1000000 in
theorem apart_FTEQ (X1 X2 Y1 Y2 : ByteArray) (o1 : Int) (s1 t1 : ByteArray) (a1 b1 c1 n1 : Int) (o2 : Int) (s2 t2 : ByteArray) (a2 b2 c2 n2 : Int) (o3 : Int) (s3 : ByteArray) (a3 b3 c3 n3 : Int) (o4 : Int) (s4 : ByteArray) (a4 b4 c4 n4 : Int) (w : World)
    (h1 : ∀ W, Calls Try.prog 11 #[.agg #[.int .i64 o1, .string s1, .string t1, .int .i64 a1, .int .i64 b1, .int .i64 c1, .int .i64 n1]] W (RetBelow (.tuple #[.string ⟨#[]⟩, .int .i64 4]) W))
    (h2 : ∀ W, Calls Try.prog 11 #[.agg #[.int .i64 o2, .string s2, .string t2, .int .i64 a2, .int .i64 b2, .int .i64 c2, .int .i64 n2]] W (RetBelow (.tuple #[.string X2, .int .i64 0]) W))
    (h3 : ∀ W, Calls Try.prog 21 #[.agg #[.int .i64 o3, .string s3, .int .i64 a3, .int .i64 b3, .int .i64 c3, .int .i64 n3]] W (RetBelow (.tuple #[.string Y1, .int .i64 0]) W)) :
    Calls Try.prog 7 #[.agg #[.int .i64 o1, .string s1, .string t1, .int .i64 a1, .int .i64 b1, .int .i64 c1, .int .i64 n1], .agg #[.int .i64 o2, .string s2, .string t2, .int .i64 a2, .int .i64 b2, .int .i64 c2, .int .i64 n2], .agg #[.int .i64 o3, .string s3, .int .i64 a3, .int .i64 b3, .int .i64 c3, .int .i64 n3], .agg #[.int .i64 o3, .string s3, .int .i64 a3, .int .i64 b3, .int .i64 c3, .int .i64 n3]] w (RetBelow (.bool true) w) := by
  have H1 := Lib.hid h1
  have H2 := Lib.hid h2
  have H3 := Lib.hid h3
  have HAW := Lib.hid awakeC_any
  clear h1 h2 h3
  have q2 : ∀ V : World, (binOp .eql 34 (.agg #[.int .i64 o3, .string s3, .int .i64 a3, .int .i64 b3, .int .i64 c3, .int .i64 n3]) (.agg #[.int .i64 o3, .string s3, .int .i64 a3, .int .i64 b3, .int .i64 c3, .int .i64 n3])).run Try.prog V = .ok (.bool true) V := fun V => by rw [eq34v, eqR_self]
  obtain ⟨W, hW⟩ : ∃ W, (((w.alloc (.cells #[.int .i64 o1, .string s1, .string t1, .int .i64 a1, .int .i64 b1, .int .i64 c1, .int .i64 n1] 25)).alloc (.cells #[.int .i64 o2, .string s2, .string t2, .int .i64 a2, .int .i64 b2, .int .i64 c2, .int .i64 n2] 25)).alloc (.cells #[.int .i64 o3, .string s3, .int .i64 a3, .int .i64 b3, .int .i64 c3, .int .i64 n3] 34)).alloc (.cells #[.int .i64 o3, .string s3, .int .i64 a3, .int .i64 b3, .int .i64 c3, .int .i64 n3] 34) = W := ⟨_, rfl⟩
  have g0 : W.heap[w.heap.size]? = some (cRowV o1 s1 t1 a1 b1 c1 n1) := by rw [← hW]; exact keepAlloc _ (keepAlloc _ (keepAlloc _ (heap_alloc_new w _)))
  have g1 : W.heap[w.heap.size + 1]? = some (cRowV o2 s2 t2 a2 b2 c2 n2) := by rw [← hW]; exact keepAlloc _ (keepAlloc _ (by rw [show w.heap.size + 1 = (w.alloc (.cells #[.int .i64 o1, .string s1, .string t1, .int .i64 a1, .int .i64 b1, .int .i64 c1, .int .i64 n1] 25)).heap.size from by simp]; exact heap_alloc_new _ _))
  have g2 : W.heap[w.heap.size + 1 + 1]? = some (rRowV o3 s3 a3 b3 c3 n3) := by rw [← hW]; exact keepAlloc _ (by rw [show w.heap.size + 1 + 1 = ((w.alloc (.cells #[.int .i64 o1, .string s1, .string t1, .int .i64 a1, .int .i64 b1, .int .i64 c1, .int .i64 n1] 25)).alloc (.cells #[.int .i64 o2, .string s2, .string t2, .int .i64 a2, .int .i64 b2, .int .i64 c2, .int .i64 n2] 25)).heap.size from by simp]; exact heap_alloc_new _ _)
  have g3 : W.heap[w.heap.size + 1 + 1 + 1]? = some (rRowV o3 s3 a3 b3 c3 n3) := by rw [← hW]; rw [show w.heap.size + 1 + 1 + 1 = (((w.alloc (.cells #[.int .i64 o1, .string s1, .string t1, .int .i64 a1, .int .i64 b1, .int .i64 c1, .int .i64 n1] 25)).alloc (.cells #[.int .i64 o2, .string s2, .string t2, .int .i64 a2, .int .i64 b2, .int .i64 c2, .int .i64 n2] 25)).alloc (.cells #[.int .i64 o3, .string s3, .int .i64 a3, .int .i64 b3, .int .i64 c3, .int .i64 n3] 34)).heap.size from by simp]; exact heap_alloc_new _ _
  have hz : W.heap.size = w.heap.size + 4 := by rw [← hW]; simp
  have HB0 : Hid (Below w.heap.size w W) := Lib.hid (by rw [← hW]; exact ((((Below.refl _ _).alloc (Nat.le_refl _) _).alloc (by simp) _).alloc (by simp; omega) _).alloc (by simp; omega) _)
  have HK0 := Lib.hid (fun V (h : Below W.heap.size W V) => cat_of g0 (by omega) h)
  have HK1 := Lib.hid (fun V (h : Below W.heap.size W V) => cat_of g1 (by omega) h)
  have HK2 := Lib.hid (fun V (h : Below W.heap.size W V) => rat_of g2 (by omega) h)
  have HK3 := Lib.hid (fun V (h : Below W.heap.size W V) => rat_of g3 (by omega) h)
  have HW := Lib.hid hW
  clear hW g0 g1 g2 g3 hz
  have BN := Lib.hid (Below.refl W.heap.size W)
  obtain ⟨kc0, kc1, kc2, kc3, kc4, kc5, kc6⟩ := HK0.out _ BN.out; obtain ⟨kd0, kd1, kd2, kd3, kd4, kd5, kd6⟩ := HK1.out _ BN.out; obtain ⟨ke0, ke1, ke2, ke3, ke4, ke5⟩ := HK2.out _ BN.out; obtain ⟨kf0, kf1, kf2, kf3, kf4, kf5⟩ := HK3.out _ BN.out
  go_enter Try.func7, Try.ntmps7
  go_wp2_with fail
  rw [HW.out]
  go_wp2_with (first
    | (go_at_call 11; (with_reducible refine (H1.out _).mono ?_); rintro e wx ⟨rfl, h⟩; replace BN : Hid (Below W.heap.size W wx) := Lib.hid (BN.out.trans (h.mono BN.out.size)); clear h kc0 kc1 kc2 kc3 kc4 kc5 kc6 kd0 kd1 kd2 kd3 kd4 kd5 kd6 ke0 ke1 ke2 ke3 ke4 ke5 kf0 kf1 kf2 kf3 kf4 kf5; obtain ⟨kc0, kc1, kc2, kc3, kc4, kc5, kc6⟩ := HK0.out _ BN.out; obtain ⟨kd0, kd1, kd2, kd3, kd4, kd5, kd6⟩ := HK1.out _ BN.out; obtain ⟨ke0, ke1, ke2, ke3, ke4, ke5⟩ := HK2.out _ BN.out; obtain ⟨kf0, kf1, kf2, kf3, kf4, kf5⟩ := HK3.out _ BN.out)
    | (go_at_call 11; (with_reducible refine (H2.out _).mono ?_); rintro e wx ⟨rfl, h⟩; replace BN : Hid (Below W.heap.size W wx) := Lib.hid (BN.out.trans (h.mono BN.out.size)); clear h kc0 kc1 kc2 kc3 kc4 kc5 kc6 kd0 kd1 kd2 kd3 kd4 kd5 kd6 ke0 ke1 ke2 ke3 ke4 ke5 kf0 kf1 kf2 kf3 kf4 kf5; obtain ⟨kc0, kc1, kc2, kc3, kc4, kc5, kc6⟩ := HK0.out _ BN.out; obtain ⟨kd0, kd1, kd2, kd3, kd4, kd5, kd6⟩ := HK1.out _ BN.out; obtain ⟨ke0, ke1, ke2, ke3, ke4, ke5⟩ := HK2.out _ BN.out; obtain ⟨kf0, kf1, kf2, kf3, kf4, kf5⟩ := HK3.out _ BN.out)
    | (go_at_call 21; (with_reducible refine (H3.out _).mono ?_); rintro e wx ⟨rfl, h⟩; replace BN : Hid (Below W.heap.size W wx) := Lib.hid (BN.out.trans (h.mono BN.out.size)); clear h kc0 kc1 kc2 kc3 kc4 kc5 kc6 kd0 kd1 kd2 kd3 kd4 kd5 kd6 ke0 ke1 ke2 ke3 ke4 ke5 kf0 kf1 kf2 kf3 kf4 kf5; obtain ⟨kc0, kc1, kc2, kc3, kc4, kc5, kc6⟩ := HK0.out _ BN.out; obtain ⟨kd0, kd1, kd2, kd3, kd4, kd5, kd6⟩ := HK1.out _ BN.out; obtain ⟨ke0, ke1, ke2, ke3, ke4, ke5⟩ := HK2.out _ BN.out; obtain ⟨kf0, kf1, kf2, kf3, kf4, kf5⟩ := HK3.out _ BN.out)
    | (go_at_call 10; (with_reducible refine (HAW.out _).mono ?_); rintro e wx ⟨rfl, h⟩; replace BN : Hid (Below W.heap.size W wx) := Lib.hid (BN.out.trans (h.mono BN.out.size)); clear h kc0 kc1 kc2 kc3 kc4 kc5 kc6 kd0 kd1 kd2 kd3 kd4 kd5 kd6 ke0 ke1 ke2 ke3 ke4 ke5 kf0 kf1 kf2 kf3 kf4 kf5; obtain ⟨kc0, kc1, kc2, kc3, kc4, kc5, kc6⟩ := HK0.out _ BN.out; obtain ⟨kd0, kd1, kd2, kd3, kd4, kd5, kd6⟩ := HK1.out _ BN.out; obtain ⟨ke0, ke1, ke2, ke3, ke4, ke5⟩ := HK2.out _ BN.out; obtain ⟨kf0, kf1, kf2, kf3, kf4, kf5⟩ := HK3.out _ BN.out))
  go_ret
  exact ⟨rfl, HB0.out.trans (BN.out.mono HB0.out.size)⟩
set_option maxHeartbeats 1000000 in
theorem apart_FTNE (X1 X2 Y1 Y2 : ByteArray) (o1 : Int) (s1 t1 : ByteArray) (a1 b1 c1 n1 : Int) (o2 : Int) (s2 t2 : ByteArray) (a2 b2 c2 n2 : Int) (o3 : Int) (s3 : ByteArray) (a3 b3 c3 n3 : Int) (o4 : Int) (s4 : ByteArray) (a4 b4 c4 n4 : Int) (w : World)
    (h1 : ∀ W, Calls Try.prog 11 #[.agg #[.int .i64 o1, .string s1, .string t1, .int .i64 a1, .int .i64 b1, .int .i64 c1, .int .i64 n1]] W (RetBelow (.tuple #[.string ⟨#[]⟩, .int .i64 4]) W))
    (h2 : ∀ W, Calls Try.prog 11 #[.agg #[.int .i64 o2, .string s2, .string t2, .int .i64 a2, .int .i64 b2, .int .i64 c2, .int .i64 n2]] W (RetBelow (.tuple #[.string X2, .int .i64 0]) W))
    (h3 : ∀ W, Calls Try.prog 21 #[.agg #[.int .i64 o3, .string s3, .int .i64 a3, .int .i64 b3, .int .i64 c3, .int .i64 n3]] W (RetBelow (.tuple #[.string Y1, .int .i64 0]) W))
    (h4 : ∀ W, Calls Try.prog 21 #[.agg #[.int .i64 o4, .string s4, .int .i64 a4, .int .i64 b4, .int .i64 c4, .int .i64 n4]] W (RetBelow (.tuple #[.string Y2, .int .i64 0]) W))
    (y1 : (Y1.toList == Y2.toList) = false)
    (y2 : eqR o3 s3 a3 b3 c3 n3 o4 s4 a4 b4 c4 n4 = false) :
    Calls Try.prog 7 #[.agg #[.int .i64 o1, .string s1, .string t1, .int .i64 a1, .int .i64 b1, .int .i64 c1, .int .i64 n1], .agg #[.int .i64 o2, .string s2, .string t2, .int .i64 a2, .int .i64 b2, .int .i64 c2, .int .i64 n2], .agg #[.int .i64 o3, .string s3, .int .i64 a3, .int .i64 b3, .int .i64 c3, .int .i64 n3], .agg #[.int .i64 o4, .string s4, .int .i64 a4, .int .i64 b4, .int .i64 c4, .int .i64 n4]] w (RetBelow (.bool true) w) := by
  have H1 := Lib.hid h1
  have H2 := Lib.hid h2
  have H3 := Lib.hid h3
  have H4 := Lib.hid h4
  have HAW := Lib.hid awakeC_any
  clear h1 h2 h3 h4
  have q2 : ∀ V : World, (binOp .eql 34 (.agg #[.int .i64 o3, .string s3, .int .i64 a3, .int .i64 b3, .int .i64 c3, .int .i64 n3]) (.agg #[.int .i64 o4, .string s4, .int .i64 a4, .int .i64 b4, .int .i64 c4, .int .i64 n4])).run Try.prog V = .ok (.bool false) V := fun V => by rw [eq34v, y2]
  clear y2
  obtain ⟨W, hW⟩ : ∃ W, (((w.alloc (.cells #[.int .i64 o1, .string s1, .string t1, .int .i64 a1, .int .i64 b1, .int .i64 c1, .int .i64 n1] 25)).alloc (.cells #[.int .i64 o2, .string s2, .string t2, .int .i64 a2, .int .i64 b2, .int .i64 c2, .int .i64 n2] 25)).alloc (.cells #[.int .i64 o3, .string s3, .int .i64 a3, .int .i64 b3, .int .i64 c3, .int .i64 n3] 34)).alloc (.cells #[.int .i64 o4, .string s4, .int .i64 a4, .int .i64 b4, .int .i64 c4, .int .i64 n4] 34) = W := ⟨_, rfl⟩
  have g0 : W.heap[w.heap.size]? = some (cRowV o1 s1 t1 a1 b1 c1 n1) := by rw [← hW]; exact keepAlloc _ (keepAlloc _ (keepAlloc _ (heap_alloc_new w _)))
  have g1 : W.heap[w.heap.size + 1]? = some (cRowV o2 s2 t2 a2 b2 c2 n2) := by rw [← hW]; exact keepAlloc _ (keepAlloc _ (by rw [show w.heap.size + 1 = (w.alloc (.cells #[.int .i64 o1, .string s1, .string t1, .int .i64 a1, .int .i64 b1, .int .i64 c1, .int .i64 n1] 25)).heap.size from by simp]; exact heap_alloc_new _ _))
  have g2 : W.heap[w.heap.size + 1 + 1]? = some (rRowV o3 s3 a3 b3 c3 n3) := by rw [← hW]; exact keepAlloc _ (by rw [show w.heap.size + 1 + 1 = ((w.alloc (.cells #[.int .i64 o1, .string s1, .string t1, .int .i64 a1, .int .i64 b1, .int .i64 c1, .int .i64 n1] 25)).alloc (.cells #[.int .i64 o2, .string s2, .string t2, .int .i64 a2, .int .i64 b2, .int .i64 c2, .int .i64 n2] 25)).heap.size from by simp]; exact heap_alloc_new _ _)
  have g3 : W.heap[w.heap.size + 1 + 1 + 1]? = some (rRowV o4 s4 a4 b4 c4 n4) := by rw [← hW]; rw [show w.heap.size + 1 + 1 + 1 = (((w.alloc (.cells #[.int .i64 o1, .string s1, .string t1, .int .i64 a1, .int .i64 b1, .int .i64 c1, .int .i64 n1] 25)).alloc (.cells #[.int .i64 o2, .string s2, .string t2, .int .i64 a2, .int .i64 b2, .int .i64 c2, .int .i64 n2] 25)).alloc (.cells #[.int .i64 o3, .string s3, .int .i64 a3, .int .i64 b3, .int .i64 c3, .int .i64 n3] 34)).heap.size from by simp]; exact heap_alloc_new _ _
  have hz : W.heap.size = w.heap.size + 4 := by rw [← hW]; simp
  have HB0 : Hid (Below w.heap.size w W) := Lib.hid (by rw [← hW]; exact ((((Below.refl _ _).alloc (Nat.le_refl _) _).alloc (by simp) _).alloc (by simp; omega) _).alloc (by simp; omega) _)
  have HK0 := Lib.hid (fun V (h : Below W.heap.size W V) => cat_of g0 (by omega) h)
  have HK1 := Lib.hid (fun V (h : Below W.heap.size W V) => cat_of g1 (by omega) h)
  have HK2 := Lib.hid (fun V (h : Below W.heap.size W V) => rat_of g2 (by omega) h)
  have HK3 := Lib.hid (fun V (h : Below W.heap.size W V) => rat_of g3 (by omega) h)
  have HW := Lib.hid hW
  clear hW g0 g1 g2 g3 hz
  have BN := Lib.hid (Below.refl W.heap.size W)
  obtain ⟨kc0, kc1, kc2, kc3, kc4, kc5, kc6⟩ := HK0.out _ BN.out; obtain ⟨kd0, kd1, kd2, kd3, kd4, kd5, kd6⟩ := HK1.out _ BN.out; obtain ⟨ke0, ke1, ke2, ke3, ke4, ke5⟩ := HK2.out _ BN.out; obtain ⟨kf0, kf1, kf2, kf3, kf4, kf5⟩ := HK3.out _ BN.out
  go_enter Try.func7, Try.ntmps7
  go_wp2_with fail
  rw [HW.out]
  go_wp2_with (first
    | (go_at_call 11; (with_reducible refine (H1.out _).mono ?_); rintro e wx ⟨rfl, h⟩; replace BN : Hid (Below W.heap.size W wx) := Lib.hid (BN.out.trans (h.mono BN.out.size)); clear h kc0 kc1 kc2 kc3 kc4 kc5 kc6 kd0 kd1 kd2 kd3 kd4 kd5 kd6 ke0 ke1 ke2 ke3 ke4 ke5 kf0 kf1 kf2 kf3 kf4 kf5; obtain ⟨kc0, kc1, kc2, kc3, kc4, kc5, kc6⟩ := HK0.out _ BN.out; obtain ⟨kd0, kd1, kd2, kd3, kd4, kd5, kd6⟩ := HK1.out _ BN.out; obtain ⟨ke0, ke1, ke2, ke3, ke4, ke5⟩ := HK2.out _ BN.out; obtain ⟨kf0, kf1, kf2, kf3, kf4, kf5⟩ := HK3.out _ BN.out)
    | (go_at_call 11; (with_reducible refine (H2.out _).mono ?_); rintro e wx ⟨rfl, h⟩; replace BN : Hid (Below W.heap.size W wx) := Lib.hid (BN.out.trans (h.mono BN.out.size)); clear h kc0 kc1 kc2 kc3 kc4 kc5 kc6 kd0 kd1 kd2 kd3 kd4 kd5 kd6 ke0 ke1 ke2 ke3 ke4 ke5 kf0 kf1 kf2 kf3 kf4 kf5; obtain ⟨kc0, kc1, kc2, kc3, kc4, kc5, kc6⟩ := HK0.out _ BN.out; obtain ⟨kd0, kd1, kd2, kd3, kd4, kd5, kd6⟩ := HK1.out _ BN.out; obtain ⟨ke0, ke1, ke2, ke3, ke4, ke5⟩ := HK2.out _ BN.out; obtain ⟨kf0, kf1, kf2, kf3, kf4, kf5⟩ := HK3.out _ BN.out)
    | (go_at_call 21; (with_reducible refine (H3.out _).mono ?_); rintro e wx ⟨rfl, h⟩; replace BN : Hid (Below W.heap.size W wx) := Lib.hid (BN.out.trans (h.mono BN.out.size)); clear h kc0 kc1 kc2 kc3 kc4 kc5 kc6 kd0 kd1 kd2 kd3 kd4 kd5 kd6 ke0 ke1 ke2 ke3 ke4 ke5 kf0 kf1 kf2 kf3 kf4 kf5; obtain ⟨kc0, kc1, kc2, kc3, kc4, kc5, kc6⟩ := HK0.out _ BN.out; obtain ⟨kd0, kd1, kd2, kd3, kd4, kd5, kd6⟩ := HK1.out _ BN.out; obtain ⟨ke0, ke1, ke2, ke3, ke4, ke5⟩ := HK2.out _ BN.out; obtain ⟨kf0, kf1, kf2, kf3, kf4, kf5⟩ := HK3.out _ BN.out)
    | (go_at_call 21; (with_reducible refine (H4.out _).mono ?_); rintro e wx ⟨rfl, h⟩; replace BN : Hid (Below W.heap.size W wx) := Lib.hid (BN.out.trans (h.mono BN.out.size)); clear h kc0 kc1 kc2 kc3 kc4 kc5 kc6 kd0 kd1 kd2 kd3 kd4 kd5 kd6 ke0 ke1 ke2 ke3 ke4 ke5 kf0 kf1 kf2 kf3 kf4 kf5; obtain ⟨kc0, kc1, kc2, kc3, kc4, kc5, kc6⟩ := HK0.out _ BN.out; obtain ⟨kd0, kd1, kd2, kd3, kd4, kd5, kd6⟩ := HK1.out _ BN.out; obtain ⟨ke0, ke1, ke2, ke3, ke4, ke5⟩ := HK2.out _ BN.out; obtain ⟨kf0, kf1, kf2, kf3, kf4, kf5⟩ := HK3.out _ BN.out)
    | (go_at_call 10; (with_reducible refine (HAW.out _).mono ?_); rintro e wx ⟨rfl, h⟩; replace BN : Hid (Below W.heap.size W wx) := Lib.hid (BN.out.trans (h.mono BN.out.size)); clear h kc0 kc1 kc2 kc3 kc4 kc5 kc6 kd0 kd1 kd2 kd3 kd4 kd5 kd6 ke0 ke1 ke2 ke3 ke4 ke5 kf0 kf1 kf2 kf3 kf4 kf5; obtain ⟨kc0, kc1, kc2, kc3, kc4, kc5, kc6⟩ := HK0.out _ BN.out; obtain ⟨kd0, kd1, kd2, kd3, kd4, kd5, kd6⟩ := HK1.out _ BN.out; obtain ⟨ke0, ke1, ke2, ke3, ke4, ke5⟩ := HK2.out _ BN.out; obtain ⟨kf0, kf1, kf2, kf3, kf4, kf5⟩ := HK3.out _ BN.out))
  go_ret
  exact ⟨rfl, HB0.out.trans (BN.out.mono HB0.out.size)⟩
set_option maxHeartbeats 1000000 in
theorem apart_TFFF (X1 X2 Y1 Y2 : ByteArray) (o1 : Int) (s1 t1 : ByteArray) (a1 b1 c1 n1 : Int) (o2 : Int) (s2 t2 : ByteArray) (a2 b2 c2 n2 : Int) (o3 : Int) (s3 : ByteArray) (a3 b3 c3 n3 : Int) (o4 : Int) (s4 : ByteArray) (a4 b4 c4 n4 : Int) (w : World)
    (h1 : ∀ W, Calls Try.prog 11 #[.agg #[.int .i64 o1, .string s1, .string t1, .int .i64 a1, .int .i64 b1, .int .i64 c1, .int .i64 n1]] W (RetBelow (.tuple #[.string X1, .int .i64 0]) W))
    (h2 : ∀ W, Calls Try.prog 11 #[.agg #[.int .i64 o2, .string s2, .string t2, .int .i64 a2, .int .i64 b2, .int .i64 c2, .int .i64 n2]] W (RetBelow (.tuple #[.string ⟨#[]⟩, .int .i64 4]) W))
    (h3 : ∀ W, Calls Try.prog 21 #[.agg #[.int .i64 o3, .string s3, .int .i64 a3, .int .i64 b3, .int .i64 c3, .int .i64 n3]] W (RetBelow (.tuple #[.string ⟨#[]⟩, .int .i64 4]) W))
    (h4 : ∀ W, Calls Try.prog 21 #[.agg #[.int .i64 o4, .string s4, .int .i64 a4, .int .i64 b4, .int .i64 c4, .int .i64 n4]] W (RetBelow (.tuple #[.string ⟨#[]⟩, .int .i64 4]) W)) :
    Calls Try.prog 7 #[.agg #[.int .i64 o1, .string s1, .string t1, .int .i64 a1, .int .i64 b1, .int .i64 c1, .int .i64 n1], .agg #[.int .i64 o2, .string s2, .string t2, .int .i64 a2, .int .i64 b2, .int .i64 c2, .int .i64 n2], .agg #[.int .i64 o3, .string s3, .int .i64 a3, .int .i64 b3, .int .i64 c3, .int .i64 n3], .agg #[.int .i64 o4, .string s4, .int .i64 a4, .int .i64 b4, .int .i64 c4, .int .i64 n4]] w (RetBelow (.bool true) w) := by
  have H1 := Lib.hid h1
  have H2 := Lib.hid h2
  have H3 := Lib.hid h3
  have H4 := Lib.hid h4
  have HAW := Lib.hid awakeC_any
  clear h1 h2 h3 h4
  obtain ⟨W, hW⟩ : ∃ W, (((w.alloc (.cells #[.int .i64 o1, .string s1, .string t1, .int .i64 a1, .int .i64 b1, .int .i64 c1, .int .i64 n1] 25)).alloc (.cells #[.int .i64 o2, .string s2, .string t2, .int .i64 a2, .int .i64 b2, .int .i64 c2, .int .i64 n2] 25)).alloc (.cells #[.int .i64 o3, .string s3, .int .i64 a3, .int .i64 b3, .int .i64 c3, .int .i64 n3] 34)).alloc (.cells #[.int .i64 o4, .string s4, .int .i64 a4, .int .i64 b4, .int .i64 c4, .int .i64 n4] 34) = W := ⟨_, rfl⟩
  have g0 : W.heap[w.heap.size]? = some (cRowV o1 s1 t1 a1 b1 c1 n1) := by rw [← hW]; exact keepAlloc _ (keepAlloc _ (keepAlloc _ (heap_alloc_new w _)))
  have g1 : W.heap[w.heap.size + 1]? = some (cRowV o2 s2 t2 a2 b2 c2 n2) := by rw [← hW]; exact keepAlloc _ (keepAlloc _ (by rw [show w.heap.size + 1 = (w.alloc (.cells #[.int .i64 o1, .string s1, .string t1, .int .i64 a1, .int .i64 b1, .int .i64 c1, .int .i64 n1] 25)).heap.size from by simp]; exact heap_alloc_new _ _))
  have g2 : W.heap[w.heap.size + 1 + 1]? = some (rRowV o3 s3 a3 b3 c3 n3) := by rw [← hW]; exact keepAlloc _ (by rw [show w.heap.size + 1 + 1 = ((w.alloc (.cells #[.int .i64 o1, .string s1, .string t1, .int .i64 a1, .int .i64 b1, .int .i64 c1, .int .i64 n1] 25)).alloc (.cells #[.int .i64 o2, .string s2, .string t2, .int .i64 a2, .int .i64 b2, .int .i64 c2, .int .i64 n2] 25)).heap.size from by simp]; exact heap_alloc_new _ _)
  have g3 : W.heap[w.heap.size + 1 + 1 + 1]? = some (rRowV o4 s4 a4 b4 c4 n4) := by rw [← hW]; rw [show w.heap.size + 1 + 1 + 1 = (((w.alloc (.cells #[.int .i64 o1, .string s1, .string t1, .int .i64 a1, .int .i64 b1, .int .i64 c1, .int .i64 n1] 25)).alloc (.cells #[.int .i64 o2, .string s2, .string t2, .int .i64 a2, .int .i64 b2, .int .i64 c2, .int .i64 n2] 25)).alloc (.cells #[.int .i64 o3, .string s3, .int .i64 a3, .int .i64 b3, .int .i64 c3, .int .i64 n3] 34)).heap.size from by simp]; exact heap_alloc_new _ _
  have hz : W.heap.size = w.heap.size + 4 := by rw [← hW]; simp
  have HB0 : Hid (Below w.heap.size w W) := Lib.hid (by rw [← hW]; exact ((((Below.refl _ _).alloc (Nat.le_refl _) _).alloc (by simp) _).alloc (by simp; omega) _).alloc (by simp; omega) _)
  have HK0 := Lib.hid (fun V (h : Below W.heap.size W V) => cat_of g0 (by omega) h)
  have HK1 := Lib.hid (fun V (h : Below W.heap.size W V) => cat_of g1 (by omega) h)
  have HK2 := Lib.hid (fun V (h : Below W.heap.size W V) => rat_of g2 (by omega) h)
  have HK3 := Lib.hid (fun V (h : Below W.heap.size W V) => rat_of g3 (by omega) h)
  have HW := Lib.hid hW
  clear hW g0 g1 g2 g3 hz
  have BN := Lib.hid (Below.refl W.heap.size W)
  obtain ⟨kc0, kc1, kc2, kc3, kc4, kc5, kc6⟩ := HK0.out _ BN.out; obtain ⟨kd0, kd1, kd2, kd3, kd4, kd5, kd6⟩ := HK1.out _ BN.out; obtain ⟨ke0, ke1, ke2, ke3, ke4, ke5⟩ := HK2.out _ BN.out; obtain ⟨kf0, kf1, kf2, kf3, kf4, kf5⟩ := HK3.out _ BN.out
  go_enter Try.func7, Try.ntmps7
  go_wp2_with fail
  rw [HW.out]
  go_wp2_with (first
    | (go_at_call 11; (with_reducible refine (H1.out _).mono ?_); rintro e wx ⟨rfl, h⟩; replace BN : Hid (Below W.heap.size W wx) := Lib.hid (BN.out.trans (h.mono BN.out.size)); clear h kc0 kc1 kc2 kc3 kc4 kc5 kc6 kd0 kd1 kd2 kd3 kd4 kd5 kd6 ke0 ke1 ke2 ke3 ke4 ke5 kf0 kf1 kf2 kf3 kf4 kf5; obtain ⟨kc0, kc1, kc2, kc3, kc4, kc5, kc6⟩ := HK0.out _ BN.out; obtain ⟨kd0, kd1, kd2, kd3, kd4, kd5, kd6⟩ := HK1.out _ BN.out; obtain ⟨ke0, ke1, ke2, ke3, ke4, ke5⟩ := HK2.out _ BN.out; obtain ⟨kf0, kf1, kf2, kf3, kf4, kf5⟩ := HK3.out _ BN.out)
    | (go_at_call 11; (with_reducible refine (H2.out _).mono ?_); rintro e wx ⟨rfl, h⟩; replace BN : Hid (Below W.heap.size W wx) := Lib.hid (BN.out.trans (h.mono BN.out.size)); clear h kc0 kc1 kc2 kc3 kc4 kc5 kc6 kd0 kd1 kd2 kd3 kd4 kd5 kd6 ke0 ke1 ke2 ke3 ke4 ke5 kf0 kf1 kf2 kf3 kf4 kf5; obtain ⟨kc0, kc1, kc2, kc3, kc4, kc5, kc6⟩ := HK0.out _ BN.out; obtain ⟨kd0, kd1, kd2, kd3, kd4, kd5, kd6⟩ := HK1.out _ BN.out; obtain ⟨ke0, ke1, ke2, ke3, ke4, ke5⟩ := HK2.out _ BN.out; obtain ⟨kf0, kf1, kf2, kf3, kf4, kf5⟩ := HK3.out _ BN.out)
    | (go_at_call 21; (with_reducible refine (H3.out _).mono ?_); rintro e wx ⟨rfl, h⟩; replace BN : Hid (Below W.heap.size W wx) := Lib.hid (BN.out.trans (h.mono BN.out.size)); clear h kc0 kc1 kc2 kc3 kc4 kc5 kc6 kd0 kd1 kd2 kd3 kd4 kd5 kd6 ke0 ke1 ke2 ke3 ke4 ke5 kf0 kf1 kf2 kf3 kf4 kf5; obtain ⟨kc0, kc1, kc2, kc3, kc4, kc5, kc6⟩ := HK0.out _ BN.out; obtain ⟨kd0, kd1, kd2, kd3, kd4, kd5, kd6⟩ := HK1.out _ BN.out; obtain ⟨ke0, ke1, ke2, ke3, ke4, ke5⟩ := HK2.out _ BN.out; obtain ⟨kf0, kf1, kf2, kf3, kf4, kf5⟩ := HK3.out _ BN.out)
    | (go_at_call 21; (with_reducible refine (H4.out _).mono ?_); rintro e wx ⟨rfl, h⟩; replace BN : Hid (Below W.heap.size W wx) := Lib.hid (BN.out.trans (h.mono BN.out.size)); clear h kc0 kc1 kc2 kc3 kc4 kc5 kc6 kd0 kd1 kd2 kd3 kd4 kd5 kd6 ke0 ke1 ke2 ke3 ke4 ke5 kf0 kf1 kf2 kf3 kf4 kf5; obtain ⟨kc0, kc1, kc2, kc3, kc4, kc5, kc6⟩ := HK0.out _ BN.out; obtain ⟨kd0, kd1, kd2, kd3, kd4, kd5, kd6⟩ := HK1.out _ BN.out; obtain ⟨ke0, ke1, ke2, ke3, ke4, ke5⟩ := HK2.out _ BN.out; obtain ⟨kf0, kf1, kf2, kf3, kf4, kf5⟩ := HK3.out _ BN.out)
    | (go_at_call 10; (with_reducible refine (HAW.out _).mono ?_); rintro e wx ⟨rfl, h⟩; replace BN : Hid (Below W.heap.size W wx) := Lib.hid (BN.out.trans (h.mono BN.out.size)); clear h kc0 kc1 kc2 kc3 kc4 kc5 kc6 kd0 kd1 kd2 kd3 kd4 kd5 kd6 ke0 ke1 ke2 ke3 ke4 ke5 kf0 kf1 kf2 kf3 kf4 kf5; obtain ⟨kc0, kc1, kc2, kc3, kc4, kc5, kc6⟩ := HK0.out _ BN.out; obtain ⟨kd0, kd1, kd2, kd3, kd4, kd5, kd6⟩ := HK1.out _ BN.out; obtain ⟨ke0, ke1, ke2, ke3, ke4, ke5⟩ := HK2.out _ BN.out; obtain ⟨kf0, kf1, kf2, kf3, kf4, kf5⟩ := HK3.out _ BN.out))
  go_ret
  exact ⟨rfl, HB0.out.trans (BN.out.mono HB0.out.size)⟩
set_option maxHeartbeats 1000000 in
theorem apart_TFFT (X1 X2 Y1 Y2 : ByteArray) (o1 : Int) (s1 t1 : ByteArray) (a1 b1 c1 n1 : Int) (o2 : Int) (s2 t2 : ByteArray) (a2 b2 c2 n2 : Int) (o3 : Int) (s3 : ByteArray) (a3 b3 c3 n3 : Int) (o4 : Int) (s4 : ByteArray) (a4 b4 c4 n4 : Int) (w : World)
    (h1 : ∀ W, Calls Try.prog 11 #[.agg #[.int .i64 o1, .string s1, .string t1, .int .i64 a1, .int .i64 b1, .int .i64 c1, .int .i64 n1]] W (RetBelow (.tuple #[.string X1, .int .i64 0]) W))
    (h2 : ∀ W, Calls Try.prog 11 #[.agg #[.int .i64 o2, .string s2, .string t2, .int .i64 a2, .int .i64 b2, .int .i64 c2, .int .i64 n2]] W (RetBelow (.tuple #[.string ⟨#[]⟩, .int .i64 4]) W))
    (h3 : ∀ W, Calls Try.prog 21 #[.agg #[.int .i64 o3, .string s3, .int .i64 a3, .int .i64 b3, .int .i64 c3, .int .i64 n3]] W (RetBelow (.tuple #[.string ⟨#[]⟩, .int .i64 4]) W))
    (h4 : ∀ W, Calls Try.prog 21 #[.agg #[.int .i64 o4, .string s4, .int .i64 a4, .int .i64 b4, .int .i64 c4, .int .i64 n4]] W (RetBelow (.tuple #[.string Y2, .int .i64 0]) W)) :
    Calls Try.prog 7 #[.agg #[.int .i64 o1, .string s1, .string t1, .int .i64 a1, .int .i64 b1, .int .i64 c1, .int .i64 n1], .agg #[.int .i64 o2, .string s2, .string t2, .int .i64 a2, .int .i64 b2, .int .i64 c2, .int .i64 n2], .agg #[.int .i64 o3, .string s3, .int .i64 a3, .int .i64 b3, .int .i64 c3, .int .i64 n3], .agg #[.int .i64 o4, .string s4, .int .i64 a4, .int .i64 b4, .int .i64 c4, .int .i64 n4]] w (RetBelow (.bool true) w) := by
  have H1 := Lib.hid h1
  have H2 := Lib.hid h2
  have H3 := Lib.hid h3
  have H4 := Lib.hid h4
  have HAW := Lib.hid awakeC_any
  clear h1 h2 h3 h4
  obtain ⟨W, hW⟩ : ∃ W, (((w.alloc (.cells #[.int .i64 o1, .string s1, .string t1, .int .i64 a1, .int .i64 b1, .int .i64 c1, .int .i64 n1] 25)).alloc (.cells #[.int .i64 o2, .string s2, .string t2, .int .i64 a2, .int .i64 b2, .int .i64 c2, .int .i64 n2] 25)).alloc (.cells #[.int .i64 o3, .string s3, .int .i64 a3, .int .i64 b3, .int .i64 c3, .int .i64 n3] 34)).alloc (.cells #[.int .i64 o4, .string s4, .int .i64 a4, .int .i64 b4, .int .i64 c4, .int .i64 n4] 34) = W := ⟨_, rfl⟩
  have g0 : W.heap[w.heap.size]? = some (cRowV o1 s1 t1 a1 b1 c1 n1) := by rw [← hW]; exact keepAlloc _ (keepAlloc _ (keepAlloc _ (heap_alloc_new w _)))
  have g1 : W.heap[w.heap.size + 1]? = some (cRowV o2 s2 t2 a2 b2 c2 n2) := by rw [← hW]; exact keepAlloc _ (keepAlloc _ (by rw [show w.heap.size + 1 = (w.alloc (.cells #[.int .i64 o1, .string s1, .string t1, .int .i64 a1, .int .i64 b1, .int .i64 c1, .int .i64 n1] 25)).heap.size from by simp]; exact heap_alloc_new _ _))
  have g2 : W.heap[w.heap.size + 1 + 1]? = some (rRowV o3 s3 a3 b3 c3 n3) := by rw [← hW]; exact keepAlloc _ (by rw [show w.heap.size + 1 + 1 = ((w.alloc (.cells #[.int .i64 o1, .string s1, .string t1, .int .i64 a1, .int .i64 b1, .int .i64 c1, .int .i64 n1] 25)).alloc (.cells #[.int .i64 o2, .string s2, .string t2, .int .i64 a2, .int .i64 b2, .int .i64 c2, .int .i64 n2] 25)).heap.size from by simp]; exact heap_alloc_new _ _)
  have g3 : W.heap[w.heap.size + 1 + 1 + 1]? = some (rRowV o4 s4 a4 b4 c4 n4) := by rw [← hW]; rw [show w.heap.size + 1 + 1 + 1 = (((w.alloc (.cells #[.int .i64 o1, .string s1, .string t1, .int .i64 a1, .int .i64 b1, .int .i64 c1, .int .i64 n1] 25)).alloc (.cells #[.int .i64 o2, .string s2, .string t2, .int .i64 a2, .int .i64 b2, .int .i64 c2, .int .i64 n2] 25)).alloc (.cells #[.int .i64 o3, .string s3, .int .i64 a3, .int .i64 b3, .int .i64 c3, .int .i64 n3] 34)).heap.size from by simp]; exact heap_alloc_new _ _
  have hz : W.heap.size = w.heap.size + 4 := by rw [← hW]; simp
  have HB0 : Hid (Below w.heap.size w W) := Lib.hid (by rw [← hW]; exact ((((Below.refl _ _).alloc (Nat.le_refl _) _).alloc (by simp) _).alloc (by simp; omega) _).alloc (by simp; omega) _)
  have HK0 := Lib.hid (fun V (h : Below W.heap.size W V) => cat_of g0 (by omega) h)
  have HK1 := Lib.hid (fun V (h : Below W.heap.size W V) => cat_of g1 (by omega) h)
  have HK2 := Lib.hid (fun V (h : Below W.heap.size W V) => rat_of g2 (by omega) h)
  have HK3 := Lib.hid (fun V (h : Below W.heap.size W V) => rat_of g3 (by omega) h)
  have HW := Lib.hid hW
  clear hW g0 g1 g2 g3 hz
  have BN := Lib.hid (Below.refl W.heap.size W)
  obtain ⟨kc0, kc1, kc2, kc3, kc4, kc5, kc6⟩ := HK0.out _ BN.out; obtain ⟨kd0, kd1, kd2, kd3, kd4, kd5, kd6⟩ := HK1.out _ BN.out; obtain ⟨ke0, ke1, ke2, ke3, ke4, ke5⟩ := HK2.out _ BN.out; obtain ⟨kf0, kf1, kf2, kf3, kf4, kf5⟩ := HK3.out _ BN.out
  go_enter Try.func7, Try.ntmps7
  go_wp2_with fail
  rw [HW.out]
  go_wp2_with (first
    | (go_at_call 11; (with_reducible refine (H1.out _).mono ?_); rintro e wx ⟨rfl, h⟩; replace BN : Hid (Below W.heap.size W wx) := Lib.hid (BN.out.trans (h.mono BN.out.size)); clear h kc0 kc1 kc2 kc3 kc4 kc5 kc6 kd0 kd1 kd2 kd3 kd4 kd5 kd6 ke0 ke1 ke2 ke3 ke4 ke5 kf0 kf1 kf2 kf3 kf4 kf5; obtain ⟨kc0, kc1, kc2, kc3, kc4, kc5, kc6⟩ := HK0.out _ BN.out; obtain ⟨kd0, kd1, kd2, kd3, kd4, kd5, kd6⟩ := HK1.out _ BN.out; obtain ⟨ke0, ke1, ke2, ke3, ke4, ke5⟩ := HK2.out _ BN.out; obtain ⟨kf0, kf1, kf2, kf3, kf4, kf5⟩ := HK3.out _ BN.out)
    | (go_at_call 11; (with_reducible refine (H2.out _).mono ?_); rintro e wx ⟨rfl, h⟩; replace BN : Hid (Below W.heap.size W wx) := Lib.hid (BN.out.trans (h.mono BN.out.size)); clear h kc0 kc1 kc2 kc3 kc4 kc5 kc6 kd0 kd1 kd2 kd3 kd4 kd5 kd6 ke0 ke1 ke2 ke3 ke4 ke5 kf0 kf1 kf2 kf3 kf4 kf5; obtain ⟨kc0, kc1, kc2, kc3, kc4, kc5, kc6⟩ := HK0.out _ BN.out; obtain ⟨kd0, kd1, kd2, kd3, kd4, kd5, kd6⟩ := HK1.out _ BN.out; obtain ⟨ke0, ke1, ke2, ke3, ke4, ke5⟩ := HK2.out _ BN.out; obtain ⟨kf0, kf1, kf2, kf3, kf4, kf5⟩ := HK3.out _ BN.out)
    | (go_at_call 21; (with_reducible refine (H3.out _).mono ?_); rintro e wx ⟨rfl, h⟩; replace BN : Hid (Below W.heap.size W wx) := Lib.hid (BN.out.trans (h.mono BN.out.size)); clear h kc0 kc1 kc2 kc3 kc4 kc5 kc6 kd0 kd1 kd2 kd3 kd4 kd5 kd6 ke0 ke1 ke2 ke3 ke4 ke5 kf0 kf1 kf2 kf3 kf4 kf5; obtain ⟨kc0, kc1, kc2, kc3, kc4, kc5, kc6⟩ := HK0.out _ BN.out; obtain ⟨kd0, kd1, kd2, kd3, kd4, kd5, kd6⟩ := HK1.out _ BN.out; obtain ⟨ke0, ke1, ke2, ke3, ke4, ke5⟩ := HK2.out _ BN.out; obtain ⟨kf0, kf1, kf2, kf3, kf4, kf5⟩ := HK3.out _ BN.out)
    | (go_at_call 21; (with_reducible refine (H4.out _).mono ?_); rintro e wx ⟨rfl, h⟩; replace BN : Hid (Below W.heap.size W wx) := Lib.hid (BN.out.trans (h.mono BN.out.size)); clear h kc0 kc1 kc2 kc3 kc4 kc5 kc6 kd0 kd1 kd2 kd3 kd4 kd5 kd6 ke0 ke1 ke2 ke3 ke4 ke5 kf0 kf1 kf2 kf3 kf4 kf5; obtain ⟨kc0, kc1, kc2, kc3, kc4, kc5, kc6⟩ := HK0.out _ BN.out; obtain ⟨kd0, kd1, kd2, kd3, kd4, kd5, kd6⟩ := HK1.out _ BN.out; obtain ⟨ke0, ke1, ke2, ke3, ke4, ke5⟩ := HK2.out _ BN.out; obtain ⟨kf0, kf1, kf2, kf3, kf4, kf5⟩ := HK3.out _ BN.out)
    | (go_at_call 10; (with_reducible refine (HAW.out _).mono ?_); rintro e wx ⟨rfl, h⟩; replace BN : Hid (Below W.heap.size W wx) := Lib.hid (BN.out.trans (h.mono BN.out.size)); clear h kc0 kc1 kc2 kc3 kc4 kc5 kc6 kd0 kd1 kd2 kd3 kd4 kd5 kd6 ke0 ke1 ke2 ke3 ke4 ke5 kf0 kf1 kf2 kf3 kf4 kf5; obtain ⟨kc0, kc1, kc2, kc3, kc4, kc5, kc6⟩ := HK0.out _ BN.out; obtain ⟨kd0, kd1, kd2, kd3, kd4, kd5, kd6⟩ := HK1.out _ BN.out; obtain ⟨ke0, ke1, ke2, ke3, ke4, ke5⟩ := HK2.out _ BN.out; obtain ⟨kf0, kf1, kf2, kf3, kf4, kf5⟩ := HK3.out _ BN.out))
  go_ret
  exact ⟨rfl, HB0.out.trans (BN.out.mono HB0.out.size)⟩
set_option maxHeartbeats 1000000 in
theorem apart_TFTF (X1 X2 Y1 Y2 : ByteArray) (o1 : Int) (s1 t1 : ByteArray) (a1 b1 c1 n1 : Int) (o2 : Int) (s2 t2 : ByteArray) (a2 b2 c2 n2 : Int) (o3 : Int) (s3 : ByteArray) (a3 b3 c3 n3 : Int) (o4 : Int) (s4 : ByteArray) (a4 b4 c4 n4 : Int) (w : World)
    (h1 : ∀ W, Calls Try.prog 11 #[.agg #[.int .i64 o1, .string s1, .string t1, .int .i64 a1, .int .i64 b1, .int .i64 c1, .int .i64 n1]] W (RetBelow (.tuple #[.string X1, .int .i64 0]) W))
    (h2 : ∀ W, Calls Try.prog 11 #[.agg #[.int .i64 o2, .string s2, .string t2, .int .i64 a2, .int .i64 b2, .int .i64 c2, .int .i64 n2]] W (RetBelow (.tuple #[.string ⟨#[]⟩, .int .i64 4]) W))
    (h3 : ∀ W, Calls Try.prog 21 #[.agg #[.int .i64 o3, .string s3, .int .i64 a3, .int .i64 b3, .int .i64 c3, .int .i64 n3]] W (RetBelow (.tuple #[.string Y1, .int .i64 0]) W))
    (h4 : ∀ W, Calls Try.prog 21 #[.agg #[.int .i64 o4, .string s4, .int .i64 a4, .int .i64 b4, .int .i64 c4, .int .i64 n4]] W (RetBelow (.tuple #[.string ⟨#[]⟩, .int .i64 4]) W))
    (z1 : (X1.toList == Y1.toList) = false) :
    Calls Try.prog 7 #[.agg #[.int .i64 o1, .string s1, .string t1, .int .i64 a1, .int .i64 b1, .int .i64 c1, .int .i64 n1], .agg #[.int .i64 o2, .string s2, .string t2, .int .i64 a2, .int .i64 b2, .int .i64 c2, .int .i64 n2], .agg #[.int .i64 o3, .string s3, .int .i64 a3, .int .i64 b3, .int .i64 c3, .int .i64 n3], .agg #[.int .i64 o4, .string s4, .int .i64 a4, .int .i64 b4, .int .i64 c4, .int .i64 n4]] w (RetBelow (.bool true) w) := by
  have H1 := Lib.hid h1
  have H2 := Lib.hid h2
  have H3 := Lib.hid h3
  have H4 := Lib.hid h4
  have HAW := Lib.hid awakeC_any
  clear h1 h2 h3 h4
  obtain ⟨W, hW⟩ : ∃ W, (((w.alloc (.cells #[.int .i64 o1, .string s1, .string t1, .int .i64 a1, .int .i64 b1, .int .i64 c1, .int .i64 n1] 25)).alloc (.cells #[.int .i64 o2, .string s2, .string t2, .int .i64 a2, .int .i64 b2, .int .i64 c2, .int .i64 n2] 25)).alloc (.cells #[.int .i64 o3, .string s3, .int .i64 a3, .int .i64 b3, .int .i64 c3, .int .i64 n3] 34)).alloc (.cells #[.int .i64 o4, .string s4, .int .i64 a4, .int .i64 b4, .int .i64 c4, .int .i64 n4] 34) = W := ⟨_, rfl⟩
  have g0 : W.heap[w.heap.size]? = some (cRowV o1 s1 t1 a1 b1 c1 n1) := by rw [← hW]; exact keepAlloc _ (keepAlloc _ (keepAlloc _ (heap_alloc_new w _)))
  have g1 : W.heap[w.heap.size + 1]? = some (cRowV o2 s2 t2 a2 b2 c2 n2) := by rw [← hW]; exact keepAlloc _ (keepAlloc _ (by rw [show w.heap.size + 1 = (w.alloc (.cells #[.int .i64 o1, .string s1, .string t1, .int .i64 a1, .int .i64 b1, .int .i64 c1, .int .i64 n1] 25)).heap.size from by simp]; exact heap_alloc_new _ _))
  have g2 : W.heap[w.heap.size + 1 + 1]? = some (rRowV o3 s3 a3 b3 c3 n3) := by rw [← hW]; exact keepAlloc _ (by rw [show w.heap.size + 1 + 1 = ((w.alloc (.cells #[.int .i64 o1, .string s1, .string t1, .int .i64 a1, .int .i64 b1, .int .i64 c1, .int .i64 n1] 25)).alloc (.cells #[.int .i64 o2, .string s2, .string t2, .int .i64 a2, .int .i64 b2, .int .i64 c2, .int .i64 n2] 25)).heap.size from by simp]; exact heap_alloc_new _ _)
  have g3 : W.heap[w.heap.size + 1 + 1 + 1]? = some (rRowV o4 s4 a4 b4 c4 n4) := by rw [← hW]; rw [show w.heap.size + 1 + 1 + 1 = (((w.alloc (.cells #[.int .i64 o1, .string s1, .string t1, .int .i64 a1, .int .i64 b1, .int .i64 c1, .int .i64 n1] 25)).alloc (.cells #[.int .i64 o2, .string s2, .string t2, .int .i64 a2, .int .i64 b2, .int .i64 c2, .int .i64 n2] 25)).alloc (.cells #[.int .i64 o3, .string s3, .int .i64 a3, .int .i64 b3, .int .i64 c3, .int .i64 n3] 34)).heap.size from by simp]; exact heap_alloc_new _ _
  have hz : W.heap.size = w.heap.size + 4 := by rw [← hW]; simp
  have HB0 : Hid (Below w.heap.size w W) := Lib.hid (by rw [← hW]; exact ((((Below.refl _ _).alloc (Nat.le_refl _) _).alloc (by simp) _).alloc (by simp; omega) _).alloc (by simp; omega) _)
  have HK0 := Lib.hid (fun V (h : Below W.heap.size W V) => cat_of g0 (by omega) h)
  have HK1 := Lib.hid (fun V (h : Below W.heap.size W V) => cat_of g1 (by omega) h)
  have HK2 := Lib.hid (fun V (h : Below W.heap.size W V) => rat_of g2 (by omega) h)
  have HK3 := Lib.hid (fun V (h : Below W.heap.size W V) => rat_of g3 (by omega) h)
  have HW := Lib.hid hW
  clear hW g0 g1 g2 g3 hz
  have BN := Lib.hid (Below.refl W.heap.size W)
  obtain ⟨kc0, kc1, kc2, kc3, kc4, kc5, kc6⟩ := HK0.out _ BN.out; obtain ⟨kd0, kd1, kd2, kd3, kd4, kd5, kd6⟩ := HK1.out _ BN.out; obtain ⟨ke0, ke1, ke2, ke3, ke4, ke5⟩ := HK2.out _ BN.out; obtain ⟨kf0, kf1, kf2, kf3, kf4, kf5⟩ := HK3.out _ BN.out
  go_enter Try.func7, Try.ntmps7
  go_wp2_with fail
  rw [HW.out]
  go_wp2_with (first
    | (go_at_call 11; (with_reducible refine (H1.out _).mono ?_); rintro e wx ⟨rfl, h⟩; replace BN : Hid (Below W.heap.size W wx) := Lib.hid (BN.out.trans (h.mono BN.out.size)); clear h kc0 kc1 kc2 kc3 kc4 kc5 kc6 kd0 kd1 kd2 kd3 kd4 kd5 kd6 ke0 ke1 ke2 ke3 ke4 ke5 kf0 kf1 kf2 kf3 kf4 kf5; obtain ⟨kc0, kc1, kc2, kc3, kc4, kc5, kc6⟩ := HK0.out _ BN.out; obtain ⟨kd0, kd1, kd2, kd3, kd4, kd5, kd6⟩ := HK1.out _ BN.out; obtain ⟨ke0, ke1, ke2, ke3, ke4, ke5⟩ := HK2.out _ BN.out; obtain ⟨kf0, kf1, kf2, kf3, kf4, kf5⟩ := HK3.out _ BN.out)
    | (go_at_call 11; (with_reducible refine (H2.out _).mono ?_); rintro e wx ⟨rfl, h⟩; replace BN : Hid (Below W.heap.size W wx) := Lib.hid (BN.out.trans (h.mono BN.out.size)); clear h kc0 kc1 kc2 kc3 kc4 kc5 kc6 kd0 kd1 kd2 kd3 kd4 kd5 kd6 ke0 ke1 ke2 ke3 ke4 ke5 kf0 kf1 kf2 kf3 kf4 kf5; obtain ⟨kc0, kc1, kc2, kc3, kc4, kc5, kc6⟩ := HK0.out _ BN.out; obtain ⟨kd0, kd1, kd2, kd3, kd4, kd5, kd6⟩ := HK1.out _ BN.out; obtain ⟨ke0, ke1, ke2, ke3, ke4, ke5⟩ := HK2.out _ BN.out; obtain ⟨kf0, kf1, kf2, kf3, kf4, kf5⟩ := HK3.out _ BN.out)
    | (go_at_call 21; (with_reducible refine (H3.out _).mono ?_); rintro e wx ⟨rfl, h⟩; replace BN : Hid (Below W.heap.size W wx) := Lib.hid (BN.out.trans (h.mono BN.out.size)); clear h kc0 kc1 kc2 kc3 kc4 kc5 kc6 kd0 kd1 kd2 kd3 kd4 kd5 kd6 ke0 ke1 ke2 ke3 ke4 ke5 kf0 kf1 kf2 kf3 kf4 kf5; obtain ⟨kc0, kc1, kc2, kc3, kc4, kc5, kc6⟩ := HK0.out _ BN.out; obtain ⟨kd0, kd1, kd2, kd3, kd4, kd5, kd6⟩ := HK1.out _ BN.out; obtain ⟨ke0, ke1, ke2, ke3, ke4, ke5⟩ := HK2.out _ BN.out; obtain ⟨kf0, kf1, kf2, kf3, kf4, kf5⟩ := HK3.out _ BN.out)
    | (go_at_call 21; (with_reducible refine (H4.out _).mono ?_); rintro e wx ⟨rfl, h⟩; replace BN : Hid (Below W.heap.size W wx) := Lib.hid (BN.out.trans (h.mono BN.out.size)); clear h kc0 kc1 kc2 kc3 kc4 kc5 kc6 kd0 kd1 kd2 kd3 kd4 kd5 kd6 ke0 ke1 ke2 ke3 ke4 ke5 kf0 kf1 kf2 kf3 kf4 kf5; obtain ⟨kc0, kc1, kc2, kc3, kc4, kc5, kc6⟩ := HK0.out _ BN.out; obtain ⟨kd0, kd1, kd2, kd3, kd4, kd5, kd6⟩ := HK1.out _ BN.out; obtain ⟨ke0, ke1, ke2, ke3, ke4, ke5⟩ := HK2.out _ BN.out; obtain ⟨kf0, kf1, kf2, kf3, kf4, kf5⟩ := HK3.out _ BN.out)
    | (go_at_call 10; (with_reducible refine (HAW.out _).mono ?_); rintro e wx ⟨rfl, h⟩; replace BN : Hid (Below W.heap.size W wx) := Lib.hid (BN.out.trans (h.mono BN.out.size)); clear h kc0 kc1 kc2 kc3 kc4 kc5 kc6 kd0 kd1 kd2 kd3 kd4 kd5 kd6 ke0 ke1 ke2 ke3 ke4 ke5 kf0 kf1 kf2 kf3 kf4 kf5; obtain ⟨kc0, kc1, kc2, kc3, kc4, kc5, kc6⟩ := HK0.out _ BN.out; obtain ⟨kd0, kd1, kd2, kd3, kd4, kd5, kd6⟩ := HK1.out _ BN.out; obtain ⟨ke0, ke1, ke2, ke3, ke4, ke5⟩ := HK2.out _ BN.out; obtain ⟨kf0, kf1, kf2, kf3, kf4, kf5⟩ := HK3.out _ BN.out))
  go_ret
  exact ⟨rfl, HB0.out.trans (BN.out.mono HB0.out.size)⟩
end Go.Proofs.Ytiedeneglhboiaa
