import Derived.Test.YtjpnkecfoealoaaNb
import Derived.LoopTactic
import Derived.LoopN
namespace Go.Proofs.Ytjpnkecfoealoaa.Nm
open Go.RowKit
set_option linter.unusedVariables false

/-- the world as it was, but for new blocks and draws -/
def Gr (w w' : World) : Prop := Below w.heap.size w w' ∧ w.drawn ≤ w'.drawn
theorem Gr.trans {a b c : World} (h : Gr a b) (k : Gr b c) : Gr a c := ⟨h.1.trans (k.1.mono h.1.size), Nat.le_trans h.2 k.2⟩
theorem Gr.drew {a b : World} (h : Gr a b) : Gr a b.drew := ⟨h.1.drew, Nat.le_succ_of_le h.2⟩
theorem iter_gr (w : World) (s : ByteArray) (p : Nat) : Gr w (w.iter s p) := ⟨iter_below _ _ _, Nat.le_refl _⟩
theorem iterAt_drawn (w : World) (k : Nat) (s : ByteArray) (p : Nat) : (w.iterAt k s p).drawn = w.drawn := rfl
/-- a text's first rune, or -1, and what stands behind it -/
def first (l : List UInt8) : Int := if l = [] then -1 else (Pl.rune l).1
def rest (l : List UInt8) : List UInt8 := l.drop (Pl.rune l).2.1

set_option maxRecDepth 20000 in
theorem next_any (s : ByteArray) (w : World) (hs : s.size ≤ 281474976710656) :
    Calls Try.prog 39 #[.string s] w fun e w' => e = .returned (.tuple #[.int .i32 (first s.data.toList), .string (str (rest s.data.toList))]) ∧ Gr w w' := by
  rw [← L_zero]
  go_enter Try.func39, Try.ntmps39
  go_wp2_with fail
  go_loopw [4] (fun v w' => ∃ (pos : Nat) (f : Int), w' = w.iter s pos ∧ v = .int .i32 f ∧ ((pos = 0 ∧ f = -1) ∨ (0 < s.size ∧ pos = (Pl.rune (L s 0)).2.1 ∧ 0 < pos ∧ f = (Pl.rune (L s 0)).1))) (fun _ w' => s.size - w'.iterPos w.heap.size)
  case atStart => exact ⟨0, -1, rfl, rfl, .inl ⟨rfl, rfl⟩⟩
  case round =>
    obtain ⟨pos, f, rfl, rfl, hc⟩ := hrel
    by_cases hp : pos < s.size
    · have hnx : ∀ ty, (Instr.next (.pointer (some ⟨w.heap.size, 0, none⟩)) true ty).run Try.prog (w.iter s pos) = _ := fun ty => run_next_any w s pos ty hp
      rw [dec hp] at hnx
      have hbd := Pl.rune_bd (L s pos) (L_ne hp)
      rcases hc with ⟨rfl, rfl⟩ | ⟨h1, h2, h3, h4⟩
      · go_wp2_with fail
        go_roundw
        case rel => exact ⟨_, _, rfl, rfl, .inr ⟨hp, by omega, by omega, rfl⟩⟩
        case measure =>
          simp
          omega
      · have H2 := Lib.hid h2
        have H4 := Lib.hid h4
        have h3' : (0 : Int) < (pos : Int) := by omega
        clear h2 h4
        go_wp2_with fail
        go_region
        go_wp2_with fail
        go_ret2
        refine ⟨?_, Gr.drew (iter_gr _ _ _)⟩
        rw [extract_back, H4.out]
        unfold first rest
        rw [if_neg (L_ne h1), ← H2.out, L_drop, Nat.zero_add]
        rfl
    · have hnx : ∀ ty, (Instr.next (.pointer (some ⟨w.heap.size, 0, none⟩)) true ty).run Try.prog (w.iter s pos) = _ := fun ty => run_next_end w s pos ty hp
      have HC := Lib.hid hc
      clear hc
      go_wp2_with fail
      go_ret2
      refine ⟨?_, iter_gr _ _ _⟩
      rcases HC.out with ⟨h1, h2⟩ | ⟨h1, h2, h3, h4⟩
      · subst h1 h2
        rw [L_end hp]
        rfl
      · rw [h4]
        unfold first rest
        rw [if_neg (L_ne h1), ← h2, L_drop, Nat.zero_add, L_end hp]
        rfl

theorem next_str (m : List UInt8) (w : World) (hm : m.length ≤ 281474976710656) :
    Calls Try.prog 39 #[.string (str m)] w fun e w' => e = .returned (.tuple #[.int .i32 (first m), .string (str (rest m))]) ∧ Gr w w' :=
  next_any (str m) w (by rw [str_size]; exact hm)
theorem first_nil : first [] = -1 := rfl
theorem first_ne {l : List UInt8} (h : l ≠ []) : first l = (Pl.rune l).1 := if_neg h
theorem less_nil (a : List UInt8) : Pl.less a [] = false := by
  unfold Pl.less; rw [Pl.nums_nil]; cases Pl.nums a <;> rfl
theorem less_of_nil (b : List UInt8) : Pl.less [] b = !b.isEmpty := by
  unfold Pl.less
  rw [Pl.nums_nil]
  cases b with
  | nil => rw [Pl.nums_nil]; rfl
  | cons x r => rw [Pl.nums_cons (by simp)]; rfl
theorem less_cons {a b : List UInt8} (ha : a ≠ []) (hb : b ≠ []) : Pl.less a b = if (Pl.rune a).1 = (Pl.rune b).1 then Pl.less (rest a) (rest b) else decide ((Pl.rune a).1 < (Pl.rune b).1) := by
  unfold Pl.less rest
  rw [Pl.nums_cons ha, Pl.nums_cons hb]
  rfl
theorem less_step {a : List UInt8} (ha : a ≠ []) (b : List UInt8) : ((Pl.rune a).1 : Int) ≠ first b → Pl.less a b = decide (((Pl.rune a).1 : Int) < first b) := by
  intro h
  by_cases hb : b = []
  · subst hb
    rw [less_nil, first_nil]
    symm
    rw [decide_eq_false_iff_not]
    omega
  · rw [first_ne hb] at h ⊢
    rw [less_cons ha hb, if_neg (by omega)]
    rw [Bool.eq_iff_iff, decide_eq_true_eq, decide_eq_true_eq]
    omega
theorem less_same {a : List UInt8} (ha : a ≠ []) (b : List UInt8) : ((Pl.rune a).1 : Int) = first b → Pl.less a b = Pl.less (rest a) (rest b) := by
  intro h
  by_cases hb : b = []
  · subst hb
    rw [first_nil] at h
    omega
  · rw [first_ne hb] at h
    rw [less_cons ha hb, if_pos (by omega)]
theorem rest_L {s : ByteArray} {p : Nat} : rest (L s p) = L s (p + (Pl.rune (L s p)).2.1) := by
  unfold rest; rw [L_drop]
theorem rest_len (l : List UInt8) : (rest l).length ≤ l.length := by unfold rest; rw [List.length_drop]; omega

set_option maxRecDepth 20000 in
theorem less_any (a b : ByteArray) (w : World) (hs : a.size ≤ 281474976710656) (hb : b.size ≤ 281474976710656) :
    Calls Try.prog 26 #[.string a, .string b] w fun e w' => e = .returned (.bool (Pl.less a.data.toList b.data.toList)) ∧ Gr w w' := by
  rw [← L_zero a]
  have HB := Lib.hid (str_list b)
  go_enter Try.func26, Try.ntmps26
  go_wp2_with fail
  go_loopw [1] (fun v wr => ∃ (pos : Nat) (m : List UInt8), wr.heap[w.heap.size]? = some (.stringIter a pos) ∧ Gr w wr ∧ v = .string (str m) ∧ m.length ≤ 281474976710656 ∧ Pl.less (L a pos) m = Pl.less (L a 0) b.data.toList ∧ pos ≤ a.size) (fun _ wr => a.size - wr.iterPos w.heap.size)
  case atStart =>
    refine ⟨0, b.data.toList, World.iter_heap _ _ _, iter_gr _ _ _, by rw [HB.out], ?_, rfl, by omega⟩
    rw [Array.length_toList]; exact hb
  case round =>
    obtain ⟨pos, m, hit, hbw, rfl, hml, hle, hpa⟩ := hrel
    have HL := Lib.hid hle
    have hsz : w.heap.size < wr.heap.size := (Array.getElem?_eq_some_iff.1 hit).1
    clear hle
    by_cases hp : pos < a.size
    · have hnx : ∀ ty, (Instr.next (.pointer (some ⟨w.heap.size, 0, none⟩)) true ty).run Try.prog wr = _ := fun ty => Lib.run_next_any_at wr w.heap.size a pos ty hit hp
      rw [dec hp] at hnx
      have hbd := Pl.rune_bd (L a pos) (L_ne hp)
      have hll := L_len a pos
      have hit2 := Lib.iterAt_heap wr w.heap.size a pos (pos + (Pl.rune (L a pos)).2.1) hit
      have hbw2 : Gr w (wr.iterAt w.heap.size a (pos + (Pl.rune (L a pos)).2.1)) := ⟨Lib.below_iterAt hbw.1 (k := w.heap.size) (Nat.le_refl _) a (pos + (Pl.rune (L a pos)).2.1), hbw.2⟩
      have hsz2 : w.heap.size < (wr.iterAt w.heap.size a (pos + (Pl.rune (L a pos)).2.1)).heap.size := by rw [Lib.iterAt_size]; exact hsz
      have HIT := Lib.hid hit2
      have HBW := Lib.hid hbw2
      have HP := Lib.hid (show 1 ≤ (Pl.rune (L a pos)).2.1 ∧ pos + (Pl.rune (L a pos)).2.1 ≤ a.size by omega)
      clear hbd hll hit2 hbw2
      have HF := Lib.hid (less_step (L_ne hp) m)
      have HS := Lib.hid (less_same (L_ne hp) m)
      have hrl := rest_len m
      generalize hr : Pl.rune (L a pos) = r at *
      generalize hf : first m = f at *
      go_wp2_with (go_at_call 39; refine (next_str m _ hml).mono ?_; rintro e w1 ⟨rfl, hb1⟩; rw [hf])
      · have h0 : ((r.1 : Int) != f) = true := by assumption
        have h : ¬ (r.1 : Int) = f := by rw [bne_iff_ne] at h0; exact h0
        go_ret
        refine ⟨ret_b ?_, ?_⟩
        · rw [← HL.out, HF.out h]
        · exact HBW.out.trans hb1
      · have h0 : ((r.1 : Int) != f) = false := by assumption
        have h : (r.1 : Int) = f := bne_eq_false_iff_eq.1 h0
        have hi1 := (hb1.1.block _ hsz2).trans HIT.out
        refine ⟨⟨pos + r.2.1, rest m, hi1, HBW.out.trans hb1, rfl, by omega, ?_, HP.out.2⟩, ?_⟩
        · rw [← HL.out, HS.out h, rest_L, hr]
        · have := HP.out.1
          simp only [World.iterPos, hi1, hit]
          omega
    · have hnx : ∀ ty, (Instr.next (.pointer (some ⟨w.heap.size, 0, none⟩)) true ty).run Try.prog wr = _ := fun ty => Lib.run_next_end_at wr w.heap.size a pos ty hit hp
      have HBW := Lib.hid hbw
      clear hbw
      go_wp2_with fail
      go_ret
      refine ⟨ret_b ?_, HBW.out⟩
      rw [← HL.out, L_end hp, less_of_nil]
      rw [ByteArray.toList_eq, list_str]
theorem less_str (a b : List UInt8) (w : World) (h : a.length ≤ 281474976710656) (k : b.length ≤ 281474976710656) : Calls Try.prog 26 #[.string (str a), .string (str b)] w fun e w' => e = .returned (.bool (Pl.less a b)) ∧ Gr w w' := less_any (str a) (str b) w (by rw [str_size]; exact h) (by rw [str_size]; exact k)
end Go.Proofs.Ytjpnkecfoealoaa.Nm
