import Derived.Test.YtphclpjekpdifaaGreatYC
import Derived.LoopTactic
import Derived.LoopN
import Derived.Test.YtphclpjekpdifaaGreatYE
namespace Go.Proofs.YtphclpjekpdifaaGreat.Nm
open Go.RowKit
set_option linter.unusedVariables false
def Gr (w w' : World) : Prop := Below w.heap.size w w' ∧ w.drawn ≤ w'.drawn
theorem Gr.trans {a b c : World} (h : Gr a b) (k : Gr b c) : Gr a c := ⟨h.1.trans (k.1.mono h.1.size), Nat.le_trans h.2 k.2⟩
theorem Gr.drew {a b : World} (h : Gr a b) : Gr a b.drew := ⟨h.1.drew, Nat.le_succ_of_le h.2⟩
theorem iter_gr (w : World) (s : ByteArray) (p : Nat) : Gr w (w.iter s p) := ⟨iter_below _ _ _, Nat.le_refl _⟩
def first (l : List UInt8) : Int := if l = [] then -1 else (Pl.rune l).1
def rest (l : List UInt8) : List UInt8 := l.drop (Pl.rune l).2.1
set_option maxRecDepth 20000 in
theorem next_any (s : ByteArray) (w : World) (hs : s.size ≤ 281474976710656) :
    Calls Tryz.prog 172 #[.string s] w fun e w' => e = .returned (.tuple #[.int .i32 (first s.data.toList), .string (str (rest s.data.toList))]) ∧ Gr w w' := by
  rw [← L_zero]
  go_enter Tryz.func172, Tryz.ntmps172
  go_wp2_with fail
  go_loopw [4] (fun v w' => ∃ (pos : Nat) (f : Int), w' = w.iter s pos ∧ v = .int .i32 f ∧ ((pos = 0 ∧ f = -1) ∨ (0 < s.size ∧ pos = (Pl.rune (L s 0)).2.1 ∧ 0 < pos ∧ f = (Pl.rune (L s 0)).1))) (fun _ w' => s.size - w'.iterPos w.heap.size)
  case atStart => exact ⟨0, -1, rfl, rfl, .inl ⟨rfl, rfl⟩⟩
  case round =>
    obtain ⟨pos, f, rfl, rfl, hc⟩ := hrel
    by_cases hp : pos < s.size
    · have hnx : ∀ ty, (Instr.next (.pointer (some ⟨w.heap.size, 0, none⟩)) true ty).run Tryz.prog (w.iter s pos) = _ := fun ty => run_next_any w s pos ty hp
      rw [dec hp] at hnx
      have hbd := Pl.rune_bd (L s pos) (L_ne hp)
      rcases hc with ⟨rfl, rfl⟩ | ⟨h1, h2, h3, h4⟩
      · go_wp2_with fail
        go_roundw
        case rel => exact ⟨_, _, rfl, rfl, .inr ⟨hp, by omega, by omega, rfl⟩⟩
        case measure =>
          simp
          omega
      · have H2 := Lib.hid h2
        have H4 := Lib.hid h4
        have h3' : (0 : Int) < (pos : Int) := by omega
        clear h2 h4
        go_wp2_with fail
        go_region
        go_wp2_with fail
        go_ret2
        refine ⟨?_, Gr.drew (iter_gr _ _ _)⟩
        rw [extract_back, H4.out]
        unfold first rest
        rw [if_neg (L_ne h1), ← H2.out, L_drop, Nat.zero_add]
        rfl
    · have hnx : ∀ ty, (Instr.next (.pointer (some ⟨w.heap.size, 0, none⟩)) true ty).run Tryz.prog (w.iter s pos) = _ := fun ty => run_next_end w s pos ty hp
      have HC := Lib.hid hc
      clear hc
      go_wp2_with fail
      go_ret2
      refine ⟨?_, iter_gr _ _ _⟩
      rcases HC.out with ⟨h1, h2⟩ | ⟨h1, h2, h3, h4⟩
      · subst h1 h2
        rw [L_end hp]
        rfl
      · rw [h4]
        unfold first rest
        rw [if_neg (L_ne h1), ← h2, L_drop, Nat.zero_add, L_end hp]
        rfl
theorem next_str (m : List UInt8) (w : World) (hm : m.length ≤ 281474976710656) :
    Calls Tryz.prog 172 #[.string (str m)] w fun e w' => e = .returned (.tuple #[.int .i32 (first m), .string (str (rest m))]) ∧ Gr w w' :=
  next_any (str m) w (by rw [str_size]; exact hm)
theorem first_nil : first [] = -1 := rfl
theorem first_ne {l : List UInt8} (h : l ≠ []) : first l = (Pl.rune l).1 := if_neg h
theorem less_nil (a : List UInt8) : Pl.less a [] = false := by
  unfold Pl.less; rw [Pl.nums_nil]; cases Pl.nums a <;> rfl
theorem less_of_nil (b : List UInt8) : Pl.less [] b = !b.isEmpty := by
  unfold Pl.less
  rw [Pl.nums_nil]
  cases b with
  | nil => rw [Pl.nums_nil]; rfl
  | cons x r => rw [Pl.nums_cons (by simp)]; rfl
theorem less_cons {a b : List UInt8} (ha : a ≠ []) (hb : b ≠ []) : Pl.less a b = if (Pl.rune a).1 = (Pl.rune b).1 then Pl.less (rest a) (rest b) else decide ((Pl.rune a).1 < (Pl.rune b).1) := by
  unfold Pl.less rest
  rw [Pl.nums_cons ha, Pl.nums_cons hb]
  rfl
theorem less_step {a : List UInt8} (ha : a ≠ []) (b : List UInt8) : ((Pl.rune a).1 : Int) ≠ first b → Pl.less a b = decide (((Pl.rune a).1 : Int) < first b) := by
  intro h
  by_cases hb : b = []
  · subst hb
    rw [less_nil, first_nil]
    symm
    rw [decide_eq_false_iff_not]
    omega
  · rw [first_ne hb] at h ⊢
    rw [less_cons ha hb, if_neg (by omega)]
    rw [Bool.eq_iff_iff, decide_eq_true_eq, decide_eq_true_eq]
    omega
theorem less_same {a : List UInt8} (ha : a ≠ []) (b : List UInt8) : ((Pl.rune a).1 : Int) = first b → Pl.less a b = Pl.less (rest a) (rest b) := by
  intro h
  by_cases hb : b = []
  · subst hb
    rw [first_nil] at h
    omega
  · rw [first_ne hb] at h
    rw [less_cons ha hb, if_pos (by omega)]
theorem rest_L {s : ByteArray} {p : Nat} : rest (L s p) = L s (p + (Pl.rune (L s p)).2.1) := by
  unfold rest; rw [L_drop]
theorem rest_len (l : List UInt8) : (rest l).length ≤ l.length := by unfold rest; rw [List.length_drop]; omega
set_option maxRecDepth 20000 in
theorem less_any (a b : ByteArray) (w : World) (hs : a.size ≤ 281474976710656) (hb : b.size ≤ 281474976710656) :
    Calls Tryz.prog 128 #[.string a, .string b] w fun e w' => e = .returned (.bool (Pl.less a.data.toList b.data.toList)) ∧ Gr w w' := by
  rw [← L_zero a]
  have HB := Lib.hid (str_list b)
  go_enter Tryz.func128, Tryz.ntmps128
  go_wp2_with fail
  go_loopw [1] (fun v wr => ∃ (pos : Nat) (m : List UInt8), wr.heap[w.heap.size]? = some (.stringIter a pos) ∧ Gr w wr ∧ v = .string (str m) ∧ m.length ≤ 281474976710656 ∧ Pl.less (L a pos) m = Pl.less (L a 0) b.data.toList ∧ pos ≤ a.size) (fun _ wr => a.size - wr.iterPos w.heap.size)
  case atStart =>
    refine ⟨0, b.data.toList, World.iter_heap _ _ _, iter_gr _ _ _, by rw [HB.out], ?_, rfl, by omega⟩
    rw [Array.length_toList]; exact hb
  case round =>
    obtain ⟨pos, m, hit, hbw, rfl, hml, hle, hpa⟩ := hrel
    have HL := Lib.hid hle
    have hsz : w.heap.size < wr.heap.size := (Array.getElem?_eq_some_iff.1 hit).1
    clear hle
    by_cases hp : pos < a.size
    · have hnx : ∀ ty, (Instr.next (.pointer (some ⟨w.heap.size, 0, none⟩)) true ty).run Tryz.prog wr = _ := fun ty => Lib.run_next_any_at wr w.heap.size a pos ty hit hp
      rw [dec hp] at hnx
      have hbd := Pl.rune_bd (L a pos) (L_ne hp)
      have hll := L_len a pos
      have hit2 := Lib.iterAt_heap wr w.heap.size a pos (pos + (Pl.rune (L a pos)).2.1) hit
      have hbw2 : Gr w (wr.iterAt w.heap.size a (pos + (Pl.rune (L a pos)).2.1)) := ⟨Lib.below_iterAt hbw.1 (k := w.heap.size) (Nat.le_refl _) a (pos + (Pl.rune (L a pos)).2.1), hbw.2⟩
      have hsz2 : w.heap.size < (wr.iterAt w.heap.size a (pos + (Pl.rune (L a pos)).2.1)).heap.size := by rw [Lib.iterAt_size]; exact hsz
      have HIT := Lib.hid hit2
      have HBW := Lib.hid hbw2
      have HP := Lib.hid (show 1 ≤ (Pl.rune (L a pos)).2.1 ∧ pos + (Pl.rune (L a pos)).2.1 ≤ a.size by omega)
      clear hbd hll hit2 hbw2
      have HF := Lib.hid (less_step (L_ne hp) m)
      have HS := Lib.hid (less_same (L_ne hp) m)
      have hrl := rest_len m
      generalize hr : Pl.rune (L a pos) = r at *
      generalize hf : first m = f at *
      go_wp2_with (go_at_call 172; refine (next_str m _ hml).mono ?_; rintro e w1 ⟨rfl, hb1⟩; rw [hf])
      · have h0 : ((r.1 : Int) != f) = true := by assumption
        have h : ¬ (r.1 : Int) = f := by rw [bne_iff_ne] at h0; exact h0
        go_ret
        refine ⟨ret_b ?_, ?_⟩
        · rw [← HL.out, HF.out h]
        · exact HBW.out.trans hb1
      · have h0 : ((r.1 : Int) != f) = false := by assumption
        have h : (r.1 : Int) = f := bne_eq_false_iff_eq.1 h0
        have hi1 := (hb1.1.block _ hsz2).trans HIT.out
        refine ⟨⟨pos + r.2.1, rest m, hi1, HBW.out.trans hb1, rfl, by omega, ?_, HP.out.2⟩, ?_⟩
        · rw [← HL.out, HS.out h, rest_L, hr]
        · have := HP.out.1
          simp only [World.iterPos, hi1, hit]
          omega
    · have hnx : ∀ ty, (Instr.next (.pointer (some ⟨w.heap.size, 0, none⟩)) true ty).run Tryz.prog wr = _ := fun ty => Lib.run_next_end_at wr w.heap.size a pos ty hit hp
      have HBW := Lib.hid hbw
      clear hbw
      go_wp2_with fail
      go_ret
      refine ⟨ret_b ?_, HBW.out⟩
      rw [← HL.out, L_end hp, less_of_nil]
      rw [ByteArray.toList_eq, list_str]
theorem less_str (a b : List UInt8) (w : World) (h : a.length ≤ 281474976710656) (k : b.length ≤ 281474976710656) : Calls Tryz.prog 128 #[.string (str a), .string (str b)] w fun e w' => e = .returned (.bool (Pl.less a b)) ∧ Gr w w' := less_any (str a) (str b) w (by rw [str_size]; exact h) (by rw [str_size]; exact k)
end Go.Proofs.YtphclpjekpdifaaGreat.Nm
namespace Go.Proofs.YtphclpjekpdifaaGreat
set_option maxRecDepth 20000
open Go.RowKit
open Vc (I64 fitB RetBelow outV vecV shA shV)
set_option linter.unusedVariables false
structure Nd where
  s : List UInt8
  a : Int
  b : Int
  c : Int
  x : Int
  y : Int
  z : Int
  d : Bool
def nodeC (n : Nd) : List Value := [.string (Nm.str n.s), .int .i64 n.a, .int .i64 n.b, .int .i64 n.c, .int .i64 n.x, .int .i64 n.y, .int .i64 n.z, .bool n.d]
def nodeV (n : Nd) : Value := .agg (nodeC n).toArray
structure Nok (n : Nd) : Prop where
  s : n.s.length ≤ 281474976710656
  a : I64 n.a
  b : I64 n.b
  c : I64 n.c
  x : I64 n.x
  y : I64 n.y
  z : I64 n.z
def nmay (n : Nd) : Bool := Nm.may n.s && (fitB 0 0 0 n.a n.b n.c && (fitB 0 0 0 n.x n.y n.z && fitB n.x n.y n.z n.a n.b n.c))
def ntakes (n : Nd) (p q r : Int) : Bool := !n.d && (fitB 0 0 0 p q r && (nmay n && fitB (n.x + p) (n.y + q) (n.z + r) n.a n.b n.c))
def nscore (n : Nd) (p q r : Int) : Int := if ntakes n p q r then shV (n.x + p) (n.y + q) (n.z + r) n.a n.b n.c else -1
def NK (W : World) (g : Nat) (n : Nd) : Prop := W.heap[g]? = some (.cells (nodeC n).toArray 43 (0, 0))
structure NC (W : World) (g : Nat) (n : Nd) : Prop where
  c0 : W.cell? ⟨g, 0, none⟩ = some (.string (Nm.str n.s))
  c1 : W.cell? ⟨g, 1, none⟩ = some (.int .i64 n.a)
  c2 : W.cell? ⟨g, 2, none⟩ = some (.int .i64 n.b)
  c3 : W.cell? ⟨g, 3, none⟩ = some (.int .i64 n.c)
  c4 : W.cell? ⟨g, 4, none⟩ = some (.int .i64 n.x)
  c5 : W.cell? ⟨g, 5, none⟩ = some (.int .i64 n.y)
  c6 : W.cell? ⟨g, 6, none⟩ = some (.int .i64 n.z)
  c7 : W.cell? ⟨g, 7, none⟩ = some (.bool n.d)
theorem NK.cells {W : World} {g : Nat} {n : Nd} (h : NK W g n) : NC W g n := by
  unfold NK nodeC at h
  constructor <;> simp [World.cell?, h]
theorem NK.new (w : World) (n : Nd) : NK (w.alloc (.cells (nodeC n).toArray 43)) w.heap.size n := heap_alloc_new w _
theorem NK.lt {W : World} {g : Nat} {n : Nd} (h : NK W g n) : g < W.heap.size := (Array.getElem?_eq_some_iff.1 h).1
theorem NK.on {W W' : World} {g k : Nat} {n : Nd} (h : NK W g n) (hb : Below k W W') (hl : g < k) : NK W' g n := (hb.block g hl).trans h
theorem NK.alloc {W : World} {g : Nat} {n : Nd} (h : NK W g n) (o : Obj) : NK (W.alloc o) g n := h.on ((Below.refl _ W).alloc (Nat.le_refl _) o) h.lt
theorem pmay_any (n : Nd) (w : World) (hs : n.s.length ≤ 281474976710656) : Calls Tryz.prog 203 #[nodeV n] w (RetBelow (.bool (nmay n)) w) := by
  have k1 := Lib.hid fun W : World => Nm.may_any (Nm.str n.s) W (by rw [Nm.str_size]; exact hs)
  have k2 := Lib.hid fun W : World => Vc.may_any n.a n.b n.c W
  have k3 := Lib.hid fun W : World => Vc.may_any n.x n.y n.z W
  have k4 := Lib.hid fun W : World => Vc.fits_any n.x n.y n.z n.a n.b n.c W
  have hr : nmay n = (Nm.may (Nm.str n.s).data.toList && (fitB 0 0 0 n.a n.b n.c && (fitB 0 0 0 n.x n.y n.z && fitB n.x n.y n.z n.a n.b n.c))) := rfl
  rw [hr]
  clear hr hs
  have K := NK.new w n
  have B := (Below.refl w.heap.size w).alloc (Nat.le_refl _) (.cells (nodeC n).toArray 43)
  unfold nodeV nodeC
  unfold nodeC at K B
  have K := Lib.hid K
  have B := Lib.hid B
  generalize Nm.may (Nm.str n.s).data.toList = m1 at *
  generalize fitB 0 0 0 n.a n.b n.c = m2 at *
  generalize fitB 0 0 0 n.x n.y n.z = m3 at *
  generalize fitB n.x n.y n.z n.a n.b n.c = m4 at *
  have HF : ∀ W : World, Below w.heap.size w W → NK W w.heap.size n → NC W w.heap.size n := fun W _ h => h.cells
  have HF := Lib.hid HF
  go_enter Tryz.func203, Tryz.ntmps203
  go_wp2_with fail
  have hsz : w.heap.size < (w.alloc (.cells #[.string (Nm.str n.s), .int .i64 n.a, .int .i64 n.b, .int .i64 n.c, .int .i64 n.x, .int .i64 n.y, .int .i64 n.z, .bool n.d] 43)).heap.size := by simp
  generalize (w.alloc (.cells #[.string (Nm.str n.s), .int .i64 n.a, .int .i64 n.b, .int .i64 n.c, .int .i64 n.x, .int .i64 n.y, .int .i64 n.z, .bool n.d] 43)) = W0 at *
  have HC : ∀ W : World, Below W0.heap.size W0 W → NC W w.heap.size n := fun W h => (K.out.on h hsz).cells
  have HC := Lib.hid HC
  have DONE := B
  clear HF
  obtain ⟨c0, c1, c2, c3, c4, c5, c6, c7⟩ := HC.out _ (Below.refl _ _)
  have B0 : Hid (Below W0.heap.size W0 W0) := Lib.hid (Below.refl _ _)
  cases m1 with
  | false =>
    go_wp2_with (go_at_call 77; (with_reducible refine (k1.out _).mono ?_); rintro e w1 ⟨rfl, hb⟩; have B1 := Lib.hid (B0.out.trans (hb.mono B0.out.size)); clear hb; obtain ⟨c0, c1, c2, c3, c4, c5, c6, c7⟩ := HC.out _ B1.out)
    go_ret
    exact ⟨rfl, B.out.trans (B1.out.mono (Nat.le_of_lt hsz))⟩
  | true =>
  cases m2 with
  | false =>
    go_wp2_with (first | (go_at_call 77; (with_reducible refine (k1.out _).mono ?_); rintro e w1 ⟨rfl, hb⟩; have B1 := Lib.hid (B0.out.trans (hb.mono B0.out.size)); clear hb; obtain ⟨c0, c1, c2, c3, c4, c5, c6, c7⟩ := HC.out _ B1.out) | (go_at_call 118; (with_reducible refine (k2.out _).mono ?_); rintro e w2 ⟨rfl, hb⟩; have B2 := Lib.hid (B1.out.trans (hb.mono B1.out.size)); clear hb; obtain ⟨c0, c1, c2, c3, c4, c5, c6, c7⟩ := HC.out _ B2.out))
    go_ret
    exact ⟨rfl, B.out.trans (B2.out.mono (Nat.le_of_lt hsz))⟩
  | true =>
  cases m3 with
  | false =>
    go_wp2_with (first | (go_at_call 77; (with_reducible refine (k1.out _).mono ?_); rintro e w1 ⟨rfl, hb⟩; have B1 := Lib.hid (B0.out.trans (hb.mono B0.out.size)); clear hb; obtain ⟨c0, c1, c2, c3, c4, c5, c6, c7⟩ := HC.out _ B1.out) | (go_at_call 118; (with_reducible refine (k2.out _).mono ?_); rintro e w2 ⟨rfl, hb⟩; have B2 := Lib.hid (B1.out.trans (hb.mono B1.out.size)); clear hb; obtain ⟨c0, c1, c2, c3, c4, c5, c6, c7⟩ := HC.out _ B2.out) | (go_at_call 118; (with_reducible refine (k3.out _).mono ?_); rintro e w3 ⟨rfl, hb⟩; have B3 := Lib.hid (B2.out.trans (hb.mono B2.out.size)); clear hb; obtain ⟨c0, c1, c2, c3, c4, c5, c6, c7⟩ := HC.out _ B3.out))
    go_ret
    exact ⟨rfl, B.out.trans (B3.out.mono (Nat.le_of_lt hsz))⟩
  | true =>
  go_wp2_with (first | (go_at_call 77; (with_reducible refine (k1.out _).mono ?_); rintro e w1 ⟨rfl, hb⟩; have B1 := Lib.hid (B0.out.trans (hb.mono B0.out.size)); clear hb; obtain ⟨c0, c1, c2, c3, c4, c5, c6, c7⟩ := HC.out _ B1.out) | (go_at_call 118; (with_reducible refine (k2.out _).mono ?_); rintro e w2 ⟨rfl, hb⟩; have B2 := Lib.hid (B1.out.trans (hb.mono B1.out.size)); clear hb; obtain ⟨c0, c1, c2, c3, c4, c5, c6, c7⟩ := HC.out _ B2.out) | (go_at_call 118; (with_reducible refine (k3.out _).mono ?_); rintro e w3 ⟨rfl, hb⟩; have B3 := Lib.hid (B2.out.trans (hb.mono B2.out.size)); clear hb; obtain ⟨c0, c1, c2, c3, c4, c5, c6, c7⟩ := HC.out _ B3.out) | (go_at_call 119; (with_reducible refine (k4.out _).mono ?_); rintro e w4 ⟨rfl, hb⟩; have B4 := Lib.hid (B3.out.trans (hb.mono B3.out.size)); clear hb; obtain ⟨c0, c1, c2, c3, c4, c5, c6, c7⟩ := HC.out _ B4.out))
  go_ret
  exact ⟨rfl, B.out.trans (B4.out.mono (Nat.le_of_lt hsz))⟩
def flX (n : Nd) (p q r : Int) : Int := if ntakes n p q r then n.x + p else 0
def flY (n : Nd) (p q r : Int) : Int := if ntakes n p q r then n.y + q else 0
def flZ (n : Nd) (p q r : Int) : Int := if ntakes n p q r then n.z + r else 0
def flV (n : Nd) (p q r : Int) : Value := .tuple #[.agg #[.int .i64 (flX n p q r), .int .i64 (flY n p q r), .int .i64 (flZ n p q r)], .bool (ntakes n p q r)]
theorem fl_no {n : Nd} {p q r : Int} (h : ntakes n p q r = false) : flV n p q r = .tuple #[.agg #[.int .i64 0, .int .i64 0, .int .i64 0], .bool false] := by
  unfold flV flX flY flZ; rw [h]; rfl
theorem fl_yes {n : Nd} {p q r : Int} (h : ntakes n p q r = true) : flV n p q r = .tuple #[.agg #[.int .i64 (n.x + p), .int .i64 (n.y + q), .int .i64 (n.z + r)], .bool true] := by
  unfold flV flX flY flZ; rw [h]; rfl
theorem takes_i64 {n : Nd} (ok : Nok n) {p q r : Int} (hv : fitB 0 0 0 p q r = true) (hm : nmay n = true) (h : fitB (n.x + p) (n.y + q) (n.z + r) n.a n.b n.c = true) : I64 (n.x + p) ∧ I64 (n.y + q) ∧ I64 (n.z + r) := by
  unfold nmay at hm
  simp only [fitB, Bool.and_eq_true, decide_eq_true_eq] at hv hm h
  have := ok.a.2; have := ok.b.2; have := ok.c.2
  unfold I64
  omega
theorem below3 (w : World) (o1 o2 o3 : Obj) : Below w.heap.size w (((w.alloc o1).alloc o2).alloc o3) :=
  (((Below.refl w.heap.size w).alloc (Nat.le_refl _) o1).alloc (by rw [World.size_alloc]; omega) o2).alloc (by rw [World.size_alloc, World.size_alloc]; omega) o3
theorem filled_drained (s : List UInt8) (a b c x y z p q r : Int) (w : World) : Calls Tryz.prog 175 #[nodeV ⟨s, a, b, c, x, y, z, true⟩, .agg #[.int .i64 p, .int .i64 q, .int .i64 r]] w (RetBelow (flV ⟨s, a, b, c, x, y, z, true⟩ p q r) w) := by
  rw [fl_no rfl]
  have B := Lib.hid (below3 w (.cells #[.string (Nm.str s), .int .i64 a, .int .i64 b, .int .i64 c, .int .i64 x, .int .i64 y, .int .i64 z, .bool true] 43) (.cells #[.int .i64 p, .int .i64 q, .int .i64 r] 28) (.cells #[.int .i64 0, .int .i64 0, .int .i64 0] 28))
  have hz := Vc.build23_0
  unfold nodeV nodeC
  go_enter Tryz.func175, Tryz.ntmps175
  go_wp2_with fail
  exact bodyPost_ret (v := .tuple #[.agg #[.int .i64 0, .int .i64 0, .int .i64 0], .bool false]) (by simp [results, Tryz.results175, go_sem]) rfl
    ⟨rfl, B.out⟩
theorem filled_core (s : List UInt8) (a b c x y z p q r : Int) (w : World) (m1 m2 m4 : Bool) (X Y Z E : Int)
    (k1 : Hid (∀ W : World, Calls Tryz.prog 118 #[.agg #[.int .i64 p, .int .i64 q, .int .i64 r]] W (RetBelow (.bool m1) W)))
    (k2 : Hid (∀ W : World, Calls Tryz.prog 203 #[.agg #[.string (Nm.str s), .int .i64 a, .int .i64 b, .int .i64 c, .int .i64 x, .int .i64 y, .int .i64 z, .bool false]] W (RetBelow (.bool m2) W)))
    (k3 : Hid (∀ W : World, Calls Tryz.prog 154 #[.agg #[.int .i64 x, .int .i64 y, .int .i64 z], .agg #[.int .i64 p, .int .i64 q, .int .i64 r]] W (RetBelow (vecV X Y Z E) W)))
    (k4' : Hid (E = 0 → ∀ W : World, Calls Tryz.prog 119 #[.agg #[.int .i64 X, .int .i64 Y, .int .i64 Z], .agg #[.int .i64 a, .int .i64 b, .int .i64 c]] W (RetBelow (.bool m4) W)))
    (hE : Hid (E = 0 ∨ E = 6)) (U : Value) (hU : Hid (U = if m1 && (m2 && ((E == 0) && m4)) then .tuple #[.agg #[.int .i64 X, .int .i64 Y, .int .i64 Z], .bool true] else .tuple #[.agg #[.int .i64 0, .int .i64 0, .int .i64 0], .bool false])) :
    Calls Tryz.prog 175 #[nodeV ⟨s, a, b, c, x, y, z, false⟩, .agg #[.int .i64 p, .int .i64 q, .int .i64 r]] w
      (RetBelow U w) := by
  have K := (((NK.new w ⟨s, a, b, c, x, y, z, false⟩).alloc (.cells #[.int .i64 p, .int .i64 q, .int .i64 r] 28)).alloc (.cells #[.int .i64 0, .int .i64 0, .int .i64 0] 28))
  have V := (Vc.BK.new (w.alloc (.cells #[.string (Nm.str s), .int .i64 a, .int .i64 b, .int .i64 c, .int .i64 x, .int .i64 y, .int .i64 z, .bool false] 43)) p q r).alloc (.cells #[.int .i64 0, .int .i64 0, .int .i64 0] 28)
  have R := Vc.BK.new ((w.alloc (.cells #[.string (Nm.str s), .int .i64 a, .int .i64 b, .int .i64 c, .int .i64 x, .int .i64 y, .int .i64 z, .bool false] 43)).alloc (.cells #[.int .i64 p, .int .i64 q, .int .i64 r] 28)) 0 0 0
  have hsz : (((w.alloc (.cells #[.string (Nm.str s), .int .i64 a, .int .i64 b, .int .i64 c, .int .i64 x, .int .i64 y, .int .i64 z, .bool false] 43)).alloc (.cells #[.int .i64 p, .int .i64 q, .int .i64 r] 28)).alloc (.cells #[.int .i64 0, .int .i64 0, .int .i64 0] 28)).heap.size = w.heap.size + 3 := by simp
  have B := below3 w (.cells #[.string (Nm.str s), .int .i64 a, .int .i64 b, .int .i64 c, .int .i64 x, .int .i64 y, .int .i64 z, .bool false] 43) (.cells #[.int .i64 p, .int .i64 q, .int .i64 r] 28) (.cells #[.int .i64 0, .int .i64 0, .int .i64 0] 28)
  have hz := Vc.build23_0
  simp only [World.size_alloc] at V R
  unfold nodeV
  unfold nodeC at K ⊢
  go_enter Tryz.func175, Tryz.ntmps175
  go_wp2_with fail
  generalize (((w.alloc (.cells #[.string (Nm.str s), .int .i64 a, .int .i64 b, .int .i64 c, .int .i64 x, .int .i64 y, .int .i64 z, .bool false] 43)).alloc (.cells #[.int .i64 p, .int .i64 q, .int .i64 r] 28)).alloc (.cells #[.int .i64 0, .int .i64 0, .int .i64 0] 28)) = W0 at *
  have HC : ∀ W : World, Below W0.heap.size W0 W → NC W w.heap.size ⟨s, a, b, c, x, y, z, false⟩ := fun W h => NK.cells (NK.on (n := ⟨s, a, b, c, x, y, z, false⟩) K h (by omega))
  have HC := Lib.hid HC
  have HV : ∀ W : World, Below W0.heap.size W0 W → Vc.BK W (w.heap.size + 1) p q r := fun W h => V.on h (by omega)
  have HV := Lib.hid HV
  have HR : ∀ W : World, Below W0.heap.size W0 W → Vc.BK W (w.heap.size + 1 + 1) 0 0 0 := fun W h => R.on h (by omega)
  have HR := Lib.hid HR
  have B := Lib.hid B
  have SZ := Lib.hid hsz
  clear K V R hsz
  have B0 : Hid (Below W0.heap.size W0 W0) := Lib.hid (Below.refl _ _)
  obtain ⟨c0, c1, c2, c3, c4, c5, c6, c7⟩ := HC.out _ B0.out
  obtain ⟨v0, v1, v2⟩ := (HV.out _ B0.out).c3
  unfold vecV at k3
  cases m1 with
  | false =>
    go_wp2_with (go_at_call 118; (with_reducible refine (k1.out _).mono ?_); rintro e w1 ⟨rfl, hb⟩; have B1 := Lib.hid (B0.out.trans (hb.mono B0.out.size)); clear hb; obtain ⟨c0, c1, c2, c3, c4, c5, c6, c7⟩ := HC.out _ B1.out; obtain ⟨v0, v1, v2⟩ := (HV.out _ B1.out).c3; obtain ⟨d0, d1, d2⟩ := (HR.out _ B1.out).c3; have f0 := (HR.out _ B1.out).f0 0; have f1 := (HR.out _ B1.out).f0 1; have f2 := (HR.out _ B1.out).f0 2)
    exact bodyPost_ret (v := .tuple #[.agg #[.int .i64 0, .int .i64 0, .int .i64 0], .bool false]) (by simp [results, Tryz.results175, go_sem, d0, d1, d2]) rfl
      ⟨by rw [hU.out]; rfl, (((B.out.trans (B1.out.mono (by have := SZ.out; omega))).setCell (by show _ ≤ w.heap.size + 1 + 1; omega) _).setCell (by show _ ≤ w.heap.size + 1 + 1; omega) _).setCell (by show _ ≤ w.heap.size + 1 + 1; omega) _⟩
  | true =>
  cases m2 with
  | false =>
    go_wp2_with (first | (go_at_call 118; (with_reducible refine (k1.out _).mono ?_); rintro e w1 ⟨rfl, hb⟩; have B1 := Lib.hid (B0.out.trans (hb.mono B0.out.size)); clear hb; obtain ⟨c0, c1, c2, c3, c4, c5, c6, c7⟩ := HC.out _ B1.out; obtain ⟨v0, v1, v2⟩ := (HV.out _ B1.out).c3; obtain ⟨d0, d1, d2⟩ := (HR.out _ B1.out).c3; have f0 := (HR.out _ B1.out).f0 0; have f1 := (HR.out _ B1.out).f0 1; have f2 := (HR.out _ B1.out).f0 2) | (go_at_call 203; (with_reducible refine (k2.out _).mono ?_); rintro e w2 ⟨rfl, hb⟩; have B2 := Lib.hid (B1.out.trans (hb.mono B1.out.size)); clear hb; obtain ⟨c0, c1, c2, c3, c4, c5, c6, c7⟩ := HC.out _ B2.out; obtain ⟨v0, v1, v2⟩ := (HV.out _ B2.out).c3; obtain ⟨d0, d1, d2⟩ := (HR.out _ B2.out).c3; have f0 := (HR.out _ B2.out).f0 0; have f1 := (HR.out _ B2.out).f0 1; have f2 := (HR.out _ B2.out).f0 2))
    exact bodyPost_ret (v := .tuple #[.agg #[.int .i64 0, .int .i64 0, .int .i64 0], .bool false]) (by simp [results, Tryz.results175, go_sem, d0, d1, d2]) rfl
      ⟨by rw [hU.out]; rfl, (((B.out.trans (B2.out.mono (by have := SZ.out; omega))).setCell (by show _ ≤ w.heap.size + 1 + 1; omega) _).setCell (by show _ ≤ w.heap.size + 1 + 1; omega) _).setCell (by show _ ≤ w.heap.size + 1 + 1; omega) _⟩
  | true =>
  rcases hE.out with rfl | rfl
  · have k4 := Lib.hid (k4'.out rfl)
    cases m4 with
    | false =>
      go_wp2_with (first | (go_at_call 118; (with_reducible refine (k1.out _).mono ?_); rintro e w1 ⟨rfl, hb⟩; have B1 := Lib.hid (B0.out.trans (hb.mono B0.out.size)); clear hb; obtain ⟨c0, c1, c2, c3, c4, c5, c6, c7⟩ := HC.out _ B1.out; obtain ⟨v0, v1, v2⟩ := (HV.out _ B1.out).c3; obtain ⟨d0, d1, d2⟩ := (HR.out _ B1.out).c3; have f0 := (HR.out _ B1.out).f0 0; have f1 := (HR.out _ B1.out).f0 1; have f2 := (HR.out _ B1.out).f0 2) | (go_at_call 203; (with_reducible refine (k2.out _).mono ?_); rintro e w2 ⟨rfl, hb⟩; have B2 := Lib.hid (B1.out.trans (hb.mono B1.out.size)); clear hb; obtain ⟨c0, c1, c2, c3, c4, c5, c6, c7⟩ := HC.out _ B2.out; obtain ⟨v0, v1, v2⟩ := (HV.out _ B2.out).c3; obtain ⟨d0, d1, d2⟩ := (HR.out _ B2.out).c3; have f0 := (HR.out _ B2.out).f0 0; have f1 := (HR.out _ B2.out).f0 1; have f2 := (HR.out _ B2.out).f0 2) | (go_at_call 154; (with_reducible refine (k3.out _).mono ?_); rintro e w3 ⟨rfl, hb⟩; have B3 := Lib.hid (B2.out.trans (hb.mono B2.out.size)); clear hb; have B4 := Lib.hid (B3.out.alloc B3.out.size (.cells #[.int .i64 X, .int .i64 Y, .int .i64 Z] 28)); have N4 := Lib.hid (Vc.BK.new w3 X Y Z); obtain ⟨c0, c1, c2, c3, c4, c5, c6, c7⟩ := HC.out _ B4.out; obtain ⟨v0, v1, v2⟩ := (HV.out _ B4.out).c3; obtain ⟨d0, d1, d2⟩ := (HR.out _ B4.out).c3; have f0 := (HR.out _ B4.out).f0 0; have f1 := (HR.out _ B4.out).f0 1; have f2 := (HR.out _ B4.out).f0 2) | (go_at_call 119; (with_reducible refine (k4.out _).mono ?_); rintro e w5 ⟨rfl, hb⟩; have B5 := Lib.hid (B4.out.trans (hb.mono B4.out.size)); have N5 := N4.out.on hb N4.out.lt; clear hb; obtain ⟨c0, c1, c2, c3, c4, c5, c6, c7⟩ := HC.out _ B5.out; obtain ⟨v0, v1, v2⟩ := (HV.out _ B5.out).c3; obtain ⟨d0, d1, d2⟩ := (HR.out _ B5.out).c3; have f0 := (HR.out _ B5.out).f0 0; have f1 := (HR.out _ B5.out).f0 1; have f2 := (HR.out _ B5.out).f0 2; obtain ⟨n0, n1, n2⟩ := N5.c3))
      exact bodyPost_ret (v := .tuple #[.agg #[.int .i64 0, .int .i64 0, .int .i64 0], .bool false]) (by simp [results, Tryz.results175, go_sem, d0, d1, d2]) rfl
        ⟨by rw [hU.out]; rfl, (((B.out.trans (B5.out.mono (by have := SZ.out; omega))).setCell (by show _ ≤ w.heap.size + 1 + 1; omega) _).setCell (by show _ ≤ w.heap.size + 1 + 1; omega) _).setCell (by show _ ≤ w.heap.size + 1 + 1; omega) _⟩
    | true =>
      go_wp2_with (first | (go_at_call 118; (with_reducible refine (k1.out _).mono ?_); rintro e w1 ⟨rfl, hb⟩; have B1 := Lib.hid (B0.out.trans (hb.mono B0.out.size)); clear hb; obtain ⟨c0, c1, c2, c3, c4, c5, c6, c7⟩ := HC.out _ B1.out; obtain ⟨v0, v1, v2⟩ := (HV.out _ B1.out).c3; obtain ⟨d0, d1, d2⟩ := (HR.out _ B1.out).c3; have f0 := (HR.out _ B1.out).f0 0; have f1 := (HR.out _ B1.out).f0 1; have f2 := (HR.out _ B1.out).f0 2) | (go_at_call 203; (with_reducible refine (k2.out _).mono ?_); rintro e w2 ⟨rfl, hb⟩; have B2 := Lib.hid (B1.out.trans (hb.mono B1.out.size)); clear hb; obtain ⟨c0, c1, c2, c3, c4, c5, c6, c7⟩ := HC.out _ B2.out; obtain ⟨v0, v1, v2⟩ := (HV.out _ B2.out).c3; obtain ⟨d0, d1, d2⟩ := (HR.out _ B2.out).c3; have f0 := (HR.out _ B2.out).f0 0; have f1 := (HR.out _ B2.out).f0 1; have f2 := (HR.out _ B2.out).f0 2) | (go_at_call 154; (with_reducible refine (k3.out _).mono ?_); rintro e w3 ⟨rfl, hb⟩; have B3 := Lib.hid (B2.out.trans (hb.mono B2.out.size)); clear hb; have B4 := Lib.hid (B3.out.alloc B3.out.size (.cells #[.int .i64 X, .int .i64 Y, .int .i64 Z] 28)); have N4 := Lib.hid (Vc.BK.new w3 X Y Z); obtain ⟨c0, c1, c2, c3, c4, c5, c6, c7⟩ := HC.out _ B4.out; obtain ⟨v0, v1, v2⟩ := (HV.out _ B4.out).c3; obtain ⟨d0, d1, d2⟩ := (HR.out _ B4.out).c3; have f0 := (HR.out _ B4.out).f0 0; have f1 := (HR.out _ B4.out).f0 1; have f2 := (HR.out _ B4.out).f0 2) | (go_at_call 119; (with_reducible refine (k4.out _).mono ?_); rintro e w5 ⟨rfl, hb⟩; have B5 := Lib.hid (B4.out.trans (hb.mono B4.out.size)); have N5 := N4.out.on hb N4.out.lt; clear hb; obtain ⟨c0, c1, c2, c3, c4, c5, c6, c7⟩ := HC.out _ B5.out; obtain ⟨v0, v1, v2⟩ := (HV.out _ B5.out).c3; obtain ⟨d0, d1, d2⟩ := (HR.out _ B5.out).c3; have f0 := (HR.out _ B5.out).f0 0; have f1 := (HR.out _ B5.out).f0 1; have f2 := (HR.out _ B5.out).f0 2; obtain ⟨n0, n1, n2⟩ := N5.c3))
      exact bodyPost_ret (v := .tuple #[.agg #[.int .i64 X, .int .i64 Y, .int .i64 Z], .bool true]) (by simp [results, Tryz.results175, go_sem, d0, d1, d2]) rfl
        ⟨by rw [hU.out]; rfl, (((B.out.trans (B5.out.mono (by have := SZ.out; omega))).setCell (by show _ ≤ w.heap.size + 1 + 1; omega) _).setCell (by show _ ≤ w.heap.size + 1 + 1; omega) _).setCell (by show _ ≤ w.heap.size + 1 + 1; omega) _⟩
  · go_wp2_with (first | (go_at_call 118; (with_reducible refine (k1.out _).mono ?_); rintro e w1 ⟨rfl, hb⟩; have B1 := Lib.hid (B0.out.trans (hb.mono B0.out.size)); clear hb; obtain ⟨c0, c1, c2, c3, c4, c5, c6, c7⟩ := HC.out _ B1.out; obtain ⟨v0, v1, v2⟩ := (HV.out _ B1.out).c3; obtain ⟨d0, d1, d2⟩ := (HR.out _ B1.out).c3; have f0 := (HR.out _ B1.out).f0 0; have f1 := (HR.out _ B1.out).f0 1; have f2 := (HR.out _ B1.out).f0 2) | (go_at_call 203; (with_reducible refine (k2.out _).mono ?_); rintro e w2 ⟨rfl, hb⟩; have B2 := Lib.hid (B1.out.trans (hb.mono B1.out.size)); clear hb; obtain ⟨c0, c1, c2, c3, c4, c5, c6, c7⟩ := HC.out _ B2.out; obtain ⟨v0, v1, v2⟩ := (HV.out _ B2.out).c3; obtain ⟨d0, d1, d2⟩ := (HR.out _ B2.out).c3; have f0 := (HR.out _ B2.out).f0 0; have f1 := (HR.out _ B2.out).f0 1; have f2 := (HR.out _ B2.out).f0 2) | (go_at_call 154; (with_reducible refine (k3.out _).mono ?_); rintro e w3 ⟨rfl, hb⟩; have B3 := Lib.hid (B2.out.trans (hb.mono B2.out.size)); clear hb; have B4 := Lib.hid (B3.out.alloc B3.out.size (.cells #[.int .i64 X, .int .i64 Y, .int .i64 Z] 28)); have N4 := Lib.hid (Vc.BK.new w3 X Y Z); obtain ⟨c0, c1, c2, c3, c4, c5, c6, c7⟩ := HC.out _ B4.out; obtain ⟨v0, v1, v2⟩ := (HV.out _ B4.out).c3; obtain ⟨d0, d1, d2⟩ := (HR.out _ B4.out).c3; have f0 := (HR.out _ B4.out).f0 0; have f1 := (HR.out _ B4.out).f0 1; have f2 := (HR.out _ B4.out).f0 2))
    exact bodyPost_ret (v := .tuple #[.agg #[.int .i64 0, .int .i64 0, .int .i64 0], .bool false]) (by simp [results, Tryz.results175, go_sem, d0, d1, d2]) rfl
      ⟨by rw [hU.out]; rfl, (((B.out.trans (B4.out.mono (by have := SZ.out; omega))).setCell (by show _ ≤ w.heap.size + 1 + 1; omega) _).setCell (by show _ ≤ w.heap.size + 1 + 1; omega) _).setCell (by show _ ≤ w.heap.size + 1 + 1; omega) _⟩
theorem filled_any (n : Nd) (p q r : Int) (w : World) (ok : Nok n) (bp : I64 p) (bq : I64 q) (br : I64 r) : Calls Tryz.prog 175 #[nodeV n, .agg #[.int .i64 p, .int .i64 q, .int .i64 r]] w (RetBelow (flV n p q r) w) := by
  obtain ⟨s, a, b, c, x, y, z, d⟩ := n
  cases d with
  | true => exact filled_drained s a b c x y z p q r w
  | false =>
    have hin := fun h1 h2 h3 => takes_i64 (p := p) (q := q) (r := r) ok h1 h2 h3
    by_cases hI : I64 (x + p) ∧ I64 (y + q) ∧ I64 (z + r)
    · refine filled_core s a b c x y z p q r w (fitB 0 0 0 p q r) (nmay ⟨s, a, b, c, x, y, z, false⟩) (fitB (x + p) (y + q) (z + r) a b c) (x + p) (y + q) (z + r) 0 (Lib.hid fun W => Vc.may_any p q r W) (Lib.hid fun W => pmay_any _ W ok.s) (Lib.hid fun W => ?_) (Lib.hid fun _ W => Vc.fits_any _ _ _ _ _ _ W) (Lib.hid (.inl rfl)) _ (Lib.hid ?_)
      · have := Vc.add_ret x y z p q r W ok.x ok.y ok.z bp bq br
        unfold outV at this
        rwa [if_pos hI] at this
      · cases h : ntakes ⟨s, a, b, c, x, y, z, false⟩ p q r with
        | true =>
          rw [fl_yes h]
          unfold ntakes at h
          simp only [Bool.not_false, Bool.true_and] at h
          simp only [beq_self_eq_true, Bool.true_and, h, if_true]
        | false =>
          rw [fl_no h]
          unfold ntakes at h
          simp only [Bool.not_false, Bool.true_and] at h
          simp only [beq_self_eq_true, Bool.true_and, h]
          rfl
    · refine filled_core s a b c x y z p q r w (fitB 0 0 0 p q r) (nmay ⟨s, a, b, c, x, y, z, false⟩) false 0 0 0 6 (Lib.hid fun W => Vc.may_any p q r W) (Lib.hid fun W => pmay_any _ W ok.s) (Lib.hid fun W => ?_) (Lib.hid fun h => absurd h (by decide)) (Lib.hid (.inr rfl)) _ (Lib.hid ?_)
      · have := Vc.add_ret x y z p q r W ok.x ok.y ok.z bp bq br
        unfold outV at this
        rwa [if_neg hI] at this
      · have h : ntakes ⟨s, a, b, c, x, y, z, false⟩ p q r = false := by
          rw [← Bool.not_eq_true]
          intro h
          unfold ntakes at h
          simp only [Bool.and_eq_true] at h
          exact hI (hin h.2.1 h.2.2.1 h.2.2.2)
        rw [fl_no h]
        simp
theorem below2 (w : World) (o1 o2 : Obj) : Below w.heap.size w ((w.alloc o1).alloc o2) :=
  ((Below.refl w.heap.size w).alloc (Nat.le_refl _) o1).alloc (by rw [World.size_alloc]; omega) o2
theorem takes_core (s : List UInt8) (a b c x y z p q r X Y Z : Int) (d t : Bool) (w : World)
    (k1 : ∀ W : World, Calls Tryz.prog 175 #[nodeV ⟨s, a, b, c, x, y, z, d⟩, .agg #[.int .i64 p, .int .i64 q, .int .i64 r]] W (RetBelow (.tuple #[.agg #[.int .i64 X, .int .i64 Y, .int .i64 Z], .bool t]) W)) :
    Calls Tryz.prog 137 #[nodeV ⟨s, a, b, c, x, y, z, d⟩, .agg #[.int .i64 p, .int .i64 q, .int .i64 r]] w (RetBelow (.bool t) w) := by
  have K := (NK.new w ⟨s, a, b, c, x, y, z, d⟩).alloc (.cells #[.int .i64 p, .int .i64 q, .int .i64 r] 28)
  have V := Vc.BK.new (w.alloc (.cells #[.string (Nm.str s), .int .i64 a, .int .i64 b, .int .i64 c, .int .i64 x, .int .i64 y, .int .i64 z, .bool d] 43)) p q r
  have hsz : ((w.alloc (.cells #[.string (Nm.str s), .int .i64 a, .int .i64 b, .int .i64 c, .int .i64 x, .int .i64 y, .int .i64 z, .bool d] 43)).alloc (.cells #[.int .i64 p, .int .i64 q, .int .i64 r] 28)).heap.size = w.heap.size + 2 := by simp
  have B := below2 w (.cells #[.string (Nm.str s), .int .i64 a, .int .i64 b, .int .i64 c, .int .i64 x, .int .i64 y, .int .i64 z, .bool d] 43) (.cells #[.int .i64 p, .int .i64 q, .int .i64 r] 28)
  simp only [World.size_alloc] at V
  unfold nodeV at k1 ⊢
  unfold nodeC at K k1 ⊢
  go_enter Tryz.func137, Tryz.ntmps137
  go_wp2_with fail
  generalize ((w.alloc (.cells #[.string (Nm.str s), .int .i64 a, .int .i64 b, .int .i64 c, .int .i64 x, .int .i64 y, .int .i64 z, .bool d] 43)).alloc (.cells #[.int .i64 p, .int .i64 q, .int .i64 r] 28)) = W0 at *
  have HC : ∀ W : World, Below W0.heap.size W0 W → NC W w.heap.size ⟨s, a, b, c, x, y, z, d⟩ := fun W h => NK.cells (NK.on (n := ⟨s, a, b, c, x, y, z, d⟩) K h (by omega))
  have HC := Lib.hid HC
  have B := Lib.hid B
  have SZ := Lib.hid hsz
  obtain ⟨c0, c1, c2, c3, c4, c5, c6, c7⟩ := HC.out _ (Below.refl _ _)
  obtain ⟨v0, v1, v2⟩ := V.c3
  clear K V hsz
  go_wp2_with (go_at_call 175; (with_reducible refine (k1 _).mono ?_); rintro e w1 ⟨rfl, hb⟩; have B1 := Lib.hid hb; clear hb)
  go_ret
  exact ⟨rfl, (B.out.trans (B1.out.mono (by have := SZ.out; omega))).alloc (Nat.le_trans B.out.size B1.out.size) _⟩
theorem score_no (s : List UInt8) (a b c x y z p q r X Y Z : Int) (d : Bool) (w : World)
    (k1 : ∀ W : World, Calls Tryz.prog 175 #[nodeV ⟨s, a, b, c, x, y, z, d⟩, .agg #[.int .i64 p, .int .i64 q, .int .i64 r]] W (RetBelow (.tuple #[.agg #[.int .i64 X, .int .i64 Y, .int .i64 Z], .bool false]) W)) :
    Calls Tryz.prog 190 #[nodeV ⟨s, a, b, c, x, y, z, d⟩, .agg #[.int .i64 p, .int .i64 q, .int .i64 r]] w (RetBelow (.int .i64 (-1)) w) := by
  have K := (NK.new w ⟨s, a, b, c, x, y, z, d⟩).alloc (.cells #[.int .i64 p, .int .i64 q, .int .i64 r] 28)
  have V := Vc.BK.new (w.alloc (.cells #[.string (Nm.str s), .int .i64 a, .int .i64 b, .int .i64 c, .int .i64 x, .int .i64 y, .int .i64 z, .bool d] 43)) p q r
  have hsz : ((w.alloc (.cells #[.string (Nm.str s), .int .i64 a, .int .i64 b, .int .i64 c, .int .i64 x, .int .i64 y, .int .i64 z, .bool d] 43)).alloc (.cells #[.int .i64 p, .int .i64 q, .int .i64 r] 28)).heap.size = w.heap.size + 2 := by simp
  have B := below2 w (.cells #[.string (Nm.str s), .int .i64 a, .int .i64 b, .int .i64 c, .int .i64 x, .int .i64 y, .int .i64 z, .bool d] 43) (.cells #[.int .i64 p, .int .i64 q, .int .i64 r] 28)
  simp only [World.size_alloc] at V
  unfold nodeV at k1 ⊢
  unfold nodeC at K k1 ⊢
  go_enter Tryz.func190, Tryz.ntmps190
  go_wp2_with fail
  generalize ((w.alloc (.cells #[.string (Nm.str s), .int .i64 a, .int .i64 b, .int .i64 c, .int .i64 x, .int .i64 y, .int .i64 z, .bool d] 43)).alloc (.cells #[.int .i64 p, .int .i64 q, .int .i64 r] 28)) = W0 at *
  have HC : ∀ W : World, Below W0.heap.size W0 W → NC W w.heap.size ⟨s, a, b, c, x, y, z, d⟩ := fun W h => NK.cells (NK.on (n := ⟨s, a, b, c, x, y, z, d⟩) K h (by omega))
  have HC := Lib.hid HC
  have B := Lib.hid B
  have SZ := Lib.hid hsz
  obtain ⟨c0, c1, c2, c3, c4, c5, c6, c7⟩ := HC.out _ (Below.refl _ _)
  obtain ⟨v0, v1, v2⟩ := V.c3
  clear K V hsz
  go_wp2_with (go_at_call 175; (with_reducible refine (k1 _).mono ?_); rintro e w1 ⟨rfl, hb⟩; have B1 := Lib.hid hb; clear hb)
  go_ret
  exact ⟨rfl, (B.out.trans (B1.out.mono (by have := SZ.out; omega))).alloc (Nat.le_trans B.out.size B1.out.size) _⟩
theorem score_yes (s : List UInt8) (a b c x y z p q r X Y Z S : Int) (d : Bool) (w : World)
    (k1 : ∀ W : World, Calls Tryz.prog 175 #[nodeV ⟨s, a, b, c, x, y, z, d⟩, .agg #[.int .i64 p, .int .i64 q, .int .i64 r]] W (RetBelow (.tuple #[.agg #[.int .i64 X, .int .i64 Y, .int .i64 Z], .bool true]) W))
    (k2 : ∀ W : World, Calls Tryz.prog 208 #[.agg #[.int .i64 X, .int .i64 Y, .int .i64 Z], .agg #[.int .i64 a, .int .i64 b, .int .i64 c]] W (RetBelow (.int .i64 S) W)) :
    Calls Tryz.prog 190 #[nodeV ⟨s, a, b, c, x, y, z, d⟩, .agg #[.int .i64 p, .int .i64 q, .int .i64 r]] w (RetBelow (.int .i64 S) w) := by
  have K := (NK.new w ⟨s, a, b, c, x, y, z, d⟩).alloc (.cells #[.int .i64 p, .int .i64 q, .int .i64 r] 28)
  have V := Vc.BK.new (w.alloc (.cells #[.string (Nm.str s), .int .i64 a, .int .i64 b, .int .i64 c, .int .i64 x, .int .i64 y, .int .i64 z, .bool d] 43)) p q r
  have hsz : ((w.alloc (.cells #[.string (Nm.str s), .int .i64 a, .int .i64 b, .int .i64 c, .int .i64 x, .int .i64 y, .int .i64 z, .bool d] 43)).alloc (.cells #[.int .i64 p, .int .i64 q, .int .i64 r] 28)).heap.size = w.heap.size + 2 := by simp
  have B := below2 w (.cells #[.string (Nm.str s), .int .i64 a, .int .i64 b, .int .i64 c, .int .i64 x, .int .i64 y, .int .i64 z, .bool d] 43) (.cells #[.int .i64 p, .int .i64 q, .int .i64 r] 28)
  simp only [World.size_alloc] at V
  unfold nodeV at k1 ⊢
  unfold nodeC at K k1 ⊢
  go_enter Tryz.func190, Tryz.ntmps190
  go_wp2_with fail
  generalize ((w.alloc (.cells #[.string (Nm.str s), .int .i64 a, .int .i64 b, .int .i64 c, .int .i64 x, .int .i64 y, .int .i64 z, .bool d] 43)).alloc (.cells #[.int .i64 p, .int .i64 q, .int .i64 r] 28)) = W0 at *
  have HC : ∀ W : World, Below W0.heap.size W0 W → NC W w.heap.size ⟨s, a, b, c, x, y, z, d⟩ := fun W h => NK.cells (NK.on (n := ⟨s, a, b, c, x, y, z, d⟩) K h (by omega))
  have HC := Lib.hid HC
  have B := Lib.hid B
  have SZ := Lib.hid hsz
  obtain ⟨c0, c1, c2, c3, c4, c5, c6, c7⟩ := HC.out _ (Below.refl _ _)
  obtain ⟨v0, v1, v2⟩ := V.c3
  clear K V hsz
  go_wp2_with (first | (go_at_call 175; (with_reducible refine (k1 _).mono ?_); rintro e w1 ⟨rfl, hb⟩; have B1 := Lib.hid hb; clear hb; have B2 := Lib.hid (B1.out.alloc B1.out.size (.cells #[.int .i64 X, .int .i64 Y, .int .i64 Z] 28)); obtain ⟨c0, c1, c2, c3, c4, c5, c6, c7⟩ := HC.out _ B2.out) | (go_at_call 208; (with_reducible refine (k2 _).mono ?_); rintro e w3 ⟨rfl, hb⟩; have B3 := Lib.hid (B2.out.trans (hb.mono B2.out.size)); clear hb))
  go_ret
  exact ⟨rfl, (B.out.trans (B3.out.mono (by have := SZ.out; omega)))⟩
theorem takes_any (n : Nd) (p q r : Int) (w : World) (ok : Nok n) (bp : I64 p) (bq : I64 q) (br : I64 r) : Calls Tryz.prog 137 #[nodeV n, .agg #[.int .i64 p, .int .i64 q, .int .i64 r]] w (RetBelow (.bool (ntakes n p q r)) w) := by
  obtain ⟨s, a, b, c, x, y, z, d⟩ := n
  exact takes_core s a b c x y z p q r _ _ _ d _ w fun W => filled_any _ p q r W ok bp bq br
theorem score_any (n : Nd) (p q r : Int) (w : World) (ok : Nok n) (bp : I64 p) (bq : I64 q) (br : I64 r) : Calls Tryz.prog 190 #[nodeV n, .agg #[.int .i64 p, .int .i64 q, .int .i64 r]] w (RetBelow (.int .i64 (nscore n p q r)) w) := by
  have kf := fun W => filled_any n p q r W ok bp bq br
  unfold nscore
  cases h : ntakes n p q r with
  | false =>
    rw [fl_no h] at kf
    obtain ⟨s, a, b, c, x, y, z, d⟩ := n
    exact score_no s a b c x y z p q r _ _ _ d w kf
  | true =>
    have ht := h
    unfold ntakes nmay at ht
    simp only [Bool.and_eq_true] at ht
    have hI := takes_i64 (p := p) (q := q) (r := r) ok ht.2.1 (by unfold nmay; simp only [Bool.and_eq_true]; exact ht.2.2.1) ht.2.2.2
    have hm : fitB 0 0 0 (n.x + p) (n.y + q) (n.z + r) = true := by
      have h1 := ht.2.1
      have h2 := ht.2.2.1.2.2.1
      simp only [fitB, Bool.and_eq_true, decide_eq_true_eq] at h1 h2 ⊢
      omega
    have hS := fun W => Vc.share_any (n.x + p) (n.y + q) (n.z + r) n.a n.b n.c W hI.1 hI.2.1 hI.2.2 ok.a ok.b ok.c
    unfold shA at hS
    rw [hm, ht.2.2.1.2.1] at hS
    simp only [Bool.and_self, if_true] at hS ⊢
    rw [fl_yes h] at kf
    obtain ⟨s, a, b, c, x, y, z, d⟩ := n
    exact score_yes s a b c x y z p q r _ _ _ _ d w kf hS
end Go.Proofs.YtphclpjekpdifaaGreat
