import Derived.Test.YtggndipfholllaaKl
import Derived.Deep.RegionHeld3
import Derived.Lib.SlBytesConst
namespace Go.Proofs.Ytggndipfholllaa
open Go.RowKit
open PlainDisk (File Disk)
set_option linter.unusedVariables false

def RetBelow (v : Value) (w : World) (e : Ending) (w' : World) : Prop := e = .returned v ∧ Below w.heap.size w w'
/-- bytes that the call has built in a block of their own -/
theorem src_new (w : World) (bs : List UInt8) (cs : Array Value) (fz : Nat × Nat) (b : Nat) (hcs : cs = (vB bs).toArray) (hb : b < w.heap.size) (hl : bs.length ≤ 1000) : Src (w.alloc (.cells cs 5 fz)) (.slice (some ⟨w.heap.size, 0, none⟩) bs.length bs.length) bs b := by
  refine ⟨_, _, rfl, Nat.le_refl _, by omega, fun q => (by cases q), fun _ => ⟨w.heap.size, 0, rfl, by omega, fun j u hu => ?_⟩⟩
  rw [Lib.cell_of_heap (heap_alloc_new w _), hcs, Nat.zero_add]
  simp [vB, hu]
/-- bytes that stand in memory, made a text -/
theorem conv_lies {w : World} {A : Option Addr} {c : Nat} {bs : List UInt8} (h : Lies w A c bs) : (convert 28 9 (.slice A bs.length c)).run Try.prog w = .ok (.string (str bs)) w := by
  cases A with
  | none =>
    have : bs = [] := by
      cases bs with
      | nil => rfl
      | cons x r => obtain ⟨b, off, h1, _⟩ := h.2 (by simp); cases h1
    subst this
    show (convert 28 9 (.slice none 0 c)).run Try.prog w = _
    rw [run_convert_bytes_string w 28 9 5 none 0 c Try.underlying28 Try.underlying5 Try.underlying9]
    simp [Conv.bytesToString]
    rfl
  | some ad =>
    refine run_convert_bytes_back w 28 9 5 ad c bs Try.underlying28 Try.underlying5 Try.underlying9 fun j hj => ?_
    obtain ⟨b, off, h1, h3⟩ := h.2 (fun e => by rw [e] at hj; simp at hj)
    injection h1 with h1
    subst h1
    have := h3 j _ (List.getElem?_eq_getElem hj)
    unfold Addr.add
    split
    · subst j; simpa using this
    · exact this
theorem conv_own {w : World} {base : Nat} {v : Value} {l : List UInt8} (h : OwnB w base v l) : (convert 28 9 v).run Try.prog w = .ok (.string (str l)) w := by
  obtain ⟨A, c, rfl, _, _, hL⟩ := h.slice
  exact conv_lies hL

/-! ### the calls whose answers the document fixes -/
def E0 : Disk := PlainDisk.new 10
def E1 : Disk := (PlainDisk.append may E0 [97] [97, 98, 99, 100, 101, 102]).1
def E2 : Disk := (PlainDisk.append may E1 [98] [97, 98, 99, 100, 101]).1
def E3 : Disk := (PlainDisk.sync may E2 [97]).1
def E4 : Disk := (PlainDisk.append may E3 [97] [103, 104, 105, 106]).1
def E5 : Disk := PlainDisk.crash E4 [⟨1, true⟩]
theorem c1 : (PlainDisk.append may E0 [97] [97, 98, 99, 100, 101, 102]).2 = 0 := by decide +kernel
theorem c2 : (PlainDisk.append may E1 [98] [97, 98, 99, 100, 101]).2 = 40 := by decide +kernel
theorem c3 : (PlainDisk.sync may E2 [97]).2 = 0 := by decide +kernel
theorem c4 : (PlainDisk.append may E3 [97] [103, 104, 105, 106]).2 = 0 := by decide +kernel
theorem c5 : (PlainDisk.find E5.fs [97]).map (fun f => (f.bytes, f.sure)) = some ([97, 98, 99, 100, 101, 102, 103, 0, 0, 0], 10) := by decide +kernel
theorem c6 : PlainDisk.used E5.fs = 10 := by decide +kernel
theorem c7 : (E5.fs.map (·.name)).length = 1 := by decide +kernel
theorem c8 : E5.gone = false := by decide +kernel
section
variable {w W : World} {b : Nat} {vb : Value}
theorem aw1 (h : Ch w W b E0) (hs : Src W vb [97, 98, 99, 100, 101, 102] b) : Calls Try.prog 25 #[.pointer (some ⟨b, 0, none⟩), .string ⟨#[97]⟩, vb] W fun e w' => e = .returned (.int .i64 0) ∧ Ch w w' b E1 := by
  have := append_ch h [97] [97, 98, 99, 100, 101, 102] vb (by decide) hs
  rw [c1] at this
  exact this
theorem aw2 (h : Ch w W b E1) (hs : Src W vb [97, 98, 99, 100, 101] b) : Calls Try.prog 25 #[.pointer (some ⟨b, 0, none⟩), .string ⟨#[98]⟩, vb] W fun e w' => e = .returned (.int .i64 40) ∧ Ch w w' b E2 := by
  have := append_ch h [98] [97, 98, 99, 100, 101] vb (by decide) hs
  rw [c2] at this
  exact this
theorem aw3 (h : Ch w W b E2) : Calls Try.prog 27 #[.pointer (some ⟨b, 0, none⟩), .string ⟨#[97]⟩] W fun e w' => e = .returned (.int .i64 0) ∧ Ch w w' b E3 := by
  have := sync_ch h [97] (by decide)
  rw [c3] at this
  exact this
theorem aw4 (h : Ch w W b E3) (hs : Src W vb [103, 104, 105, 106] b) : Calls Try.prog 25 #[.pointer (some ⟨b, 0, none⟩), .string ⟨#[97]⟩, vb] W fun e w' => e = .returned (.int .i64 0) ∧ Ch w w' b E4 := by
  have := append_ch h [97] [103, 104, 105, 106] vb (by decide) hs
  rw [c4] at this
  exact this
theorem aw6 (h : Ch w W b E5) : Calls Try.prog 15 #[.pointer (some ⟨b, 0, none⟩), .string ⟨#[97]⟩] W fun e w' => Below W.heap.size W w' ∧ ∃ A c, e = .returned (.tuple #[.slice A 10 c, .int .i64 0]) ∧ OwnB w' W.heap.size (.slice A 10 c) [97, 98, 99, 100, 101, 102, 103, 0, 0, 0] := by
  refine (read_ch h [97] (by decide)).mono ?_
  rintro e w' ⟨hb, hc⟩
  refine ⟨hb, ?_⟩
  have h5 := c5
  rcases hc with ⟨e1, _⟩ | ⟨f, v, e1, rfl, e3⟩
  · rw [e1] at h5; cases h5
  · rw [e1] at h5
    have h5 : some (f.bytes, f.sure) = some ([97, 98, 99, 100, 101, 102, 103, 0, 0, 0], 10) := h5
    injection h5 with h5
    injection h5 with h6 h7
    rw [h6] at e3
    obtain ⟨A, c, rfl, _⟩ := e3.slice
    exact ⟨A, c, rfl, e3⟩
theorem aw7 (h : Ch w W b E5) : Calls Try.prog 17 #[.pointer (some ⟨b, 0, none⟩), .string ⟨#[97]⟩] W fun e w' => e = .returned (.int .i64 10) ∧ W = w' := by
  have := sure_ch h [97] (by decide)
  have h5 := c5
  have e : sureOf E5 [97] = 10 := by
    unfold sureOf
    cases hf : PlainDisk.find E5.fs [97] with
    | none => rw [hf] at h5; cases h5
    | some f =>
      rw [hf] at h5
      have h5 : some (f.bytes, f.sure) = some ([97, 98, 99, 100, 101, 102, 103, 0, 0, 0], 10) := h5
      injection h5 with h5
      injection h5 with h6 h7
  rw [e] at this
  exact this
theorem aw8 (h : Ch w W b E5) : Calls Try.prog 23 #[.pointer (some ⟨b, 0, none⟩)] W fun e w' => e = .returned (.int .i64 10) ∧ Below W.heap.size W w' := by
  have := used_ch h
  rw [c6] at this
  exact this
theorem aw9 (h : Ch w W b E5) : Calls Try.prog 21 #[.pointer (some ⟨b, 0, none⟩)] W fun e w' => (∃ A c, e = .returned (.slice A 1 c)) ∧ Below W.heap.size W w' := by
  refine (files_ch h).mono ?_
  rintro e w' ⟨v, rfl, ho, hb⟩
  obtain ⟨A, c, rfl, _⟩ := ho.slice
  rw [c7]
  exact ⟨⟨A, c, rfl⟩, hb⟩
theorem aw10 (h : Ch w W b E5) : Calls Try.prog 19 #[.pointer (some ⟨b, 0, none⟩)] W fun e w' => e = .returned (.bool false) ∧ W = w' := by
  have := down_ch h
  rw [c8] at this
  exact this
theorem lat_one (W0 : World) : LAt (W0.alloc (.cells #[.int .i64 1, .bool true] 62)) (.slice (some ⟨W0.heap.size, 0, none⟩) 1 1) [⟨1, true⟩] (fun k => k = W0.heap.size) := by
  refine ⟨_, 1, rfl, by decide, by decide, fun x hx => ?_, fun _ => ⟨W0.heap.size, 0, rfl, rfl, fun i x hx => ?_⟩⟩
  · have := List.mem_singleton.1 hx
    subst this
    exact ⟨by decide, by decide⟩
  · cases i with
    | succ i => simp at hx
    | zero =>
      have hx : (⟨1, true⟩ : PlainDisk.Left) = x := by simpa using hx
      subst hx
      exact ⟨by rw [Lib.cell_of_heap (heap_alloc_new W0 _)]; rfl, by rw [Lib.cell_of_heap (heap_alloc_new W0 _)]; rfl⟩
end
set_option maxHeartbeats 4000000 in
set_option maxRecDepth 100000 in
theorem awake_any (w : World) : Calls Try.prog 10 #[] w fun e w' => e = .returned (.bool true) ∧ Below w.heap.size w w' := by
  have N1 := Lib.hid (new_ch 10 w (by decide))
  have N2 := Lib.hid (fun W => new_no (-1) W (by decide) (by decide) (.inl (by decide)))
  go_enter Try.func10, Try.ntmps10
  go_wp2_with fail
  refine N1.out.mono ?_
  rintro e w1 ⟨rfl, h1⟩
  have H1 : Hid (Ch w w1 w.heap.size E0) := Lib.hid h1
  have z1 : w.heap.size < w1.heap.size := by
    obtain ⟨⟨S, q1, q2⟩, _, _⟩ := h1
    exact (q2 _ q1.mine).2
  clear h1
  go_wp2_with fail
  refine (N2.out _).mono ?_
  rintro e w' ⟨rfl, rfl⟩
  have hcv : Sem.run Try.prog (convert 28 28 (.slice (some ⟨w1.heap.size, 0, none⟩) 6 6)) (w1.alloc (.cells #[.int .u8 97, .int .u8 98, .int .u8 99, .int .u8 100, .int .u8 101, .int .u8 102] 5)) = .ok (.slice (some ⟨w1.heap.size, 0, none⟩) 6 6) (w1.alloc (.cells #[.int .u8 97, .int .u8 98, .int .u8 99, .int .u8 100, .int .u8 101, .int .u8 102] 5 (6, 7))) :=
    Lib.run_convert_bytes_const (P := Try.prog) w1 28 5 #[.int .u8 97, .int .u8 98, .int .u8 99, .int .u8 100, .int .u8 101, .int .u8 102] 6 6 Try.underlying28 Try.underlying5
  go_wp2_with fail
  refine (aw1 (H1.out.next ((Below.refl _ _).alloc (Nat.le_refl _) _)) (src_new w1 [97, 98, 99, 100, 101, 102] _ _ _ rfl z1 (by decide))).mono ?_
  rintro e w2 ⟨rfl, h2⟩
  have H2 := Lib.hid h2
  have z2 : w.heap.size < w2.heap.size := by
    obtain ⟨⟨S, q1, q2⟩, _, _⟩ := h2
    exact (q2 _ q1.mine).2
  clear h2 z1 hcv
  have hcv : Sem.run Try.prog (convert 28 28 (.slice (some ⟨w2.heap.size, 0, none⟩) 5 5)) (w2.alloc (.cells #[.int .u8 97, .int .u8 98, .int .u8 99, .int .u8 100, .int .u8 101] 5)) = .ok (.slice (some ⟨w2.heap.size, 0, none⟩) 5 5) (w2.alloc (.cells #[.int .u8 97, .int .u8 98, .int .u8 99, .int .u8 100, .int .u8 101] 5 (5, 6))) :=
    Lib.run_convert_bytes_const (P := Try.prog) w2 28 5 #[.int .u8 97, .int .u8 98, .int .u8 99, .int .u8 100, .int .u8 101] 5 5 Try.underlying28 Try.underlying5
  go_wp2_with fail
  refine (aw2 (H2.out.next ((Below.refl _ _).alloc (Nat.le_refl _) _)) (src_new w2 [97, 98, 99, 100, 101] _ _ _ rfl z2 (by decide))).mono ?_
  rintro e w3 ⟨rfl, h3⟩
  have H3 := Lib.hid h3
  clear h3 z2 hcv
  go_wp2_with fail
  refine (aw3 H3.out).mono ?_
  rintro e w4 ⟨rfl, h4⟩
  have H4 := Lib.hid h4
  have z4 : w.heap.size < w4.heap.size := by
    obtain ⟨⟨S, q1, q2⟩, _, _⟩ := h4
    exact (q2 _ q1.mine).2
  clear h4
  have hcv : Sem.run Try.prog (convert 28 28 (.slice (some ⟨w4.heap.size, 0, none⟩) 4 4)) (w4.alloc (.cells #[.int .u8 103, .int .u8 104, .int .u8 105, .int .u8 106] 5)) = .ok (.slice (some ⟨w4.heap.size, 0, none⟩) 4 4) (w4.alloc (.cells #[.int .u8 103, .int .u8 104, .int .u8 105, .int .u8 106] 5 (4, 5))) :=
    Lib.run_convert_bytes_const (P := Try.prog) w4 28 5 #[.int .u8 103, .int .u8 104, .int .u8 105, .int .u8 106] 4 4 Try.underlying28 Try.underlying5
  go_wp2_with fail
  refine (aw4 (H4.out.next ((Below.refl _ _).alloc (Nat.le_refl _) _)) (src_new w4 [103, 104, 105, 106] _ _ _ rfl z4 (by decide))).mono ?_
  rintro e w5 ⟨rfl, h5⟩
  have H5 := Lib.hid h5
  clear h5 z4 hcv
  go_wp2_with fail
  refine (crash_ch H5.out ((Below.refl _ _).alloc (Nat.le_refl _) _) [⟨1, true⟩] _ _ (lat_one w5) (fun k hk => ⟨by subst hk; simp, .inr (by omega)⟩)).mono ?_
  rintro e w6 ⟨rfl, h6⟩
  have H6 : Hid (Ch w w6 w.heap.size E5) := Lib.hid h6
  clear h6
  go_wp2_with fail
  refine (aw6 H6.out).mono ?_
  rintro e w7 ⟨hb7, A, c, rfl, ho⟩
  have H7 := Lib.hid (H6.out.next hb7)
  have hcs : (convert 28 9 (.slice A 10 c)).run Try.prog w7 = .ok (.string ⟨#[97, 98, 99, 100, 101, 102, 103, 0, 0, 0]⟩) w7 := conv_own ho
  have HO := Lib.hid ho
  clear hb7 ho
  go_wp2_with fail
  refine (aw7 H7.out).mono ?_
  rintro e w' ⟨rfl, rfl⟩
  go_wp2_with fail
  refine (aw8 H7.out).mono ?_
  rintro e w8 ⟨rfl, hb8⟩
  have H8 := Lib.hid (H7.out.next hb8)
  clear hb8
  go_wp2_with fail
  refine (aw9 H8.out).mono ?_
  rintro e w9 ⟨⟨A9, c9, rfl⟩, hb9⟩
  have H9 := Lib.hid (H8.out.next hb9)
  clear hb9
  go_wp2_with fail
  refine (aw10 H9.out).mono ?_
  rintro e w' ⟨rfl, rfl⟩
  go_wp2_with fail
  go_ret
  exact ⟨rfl, H9.out.below⟩
end Go.Proofs.Ytggndipfholllaa
