import Derived.Test.YtphclpjekpdifaaGreatYL
import Derived.Deep.RegionWith
namespace Go.Proofs.YtphclpjekpdifaaGreat
set_option maxRecDepth 20000
open Go.RowKit
open PS (Tx putM dropM setM findM Nod Ten Jb kOf)
open Go.Proofs.YtphclpjekpdifaaGreat.Nm (str)
open Go.Proofs.YtphclpjekpdifaaGreat.Vc (RetBelow)
set_option linter.unusedVariables false
theorem zero_J (w : World) : (zeroValue 46).run Tryz.prog w = .ok (jobV PS.zj) w := by kernel_rfl
set_option maxHeartbeats 1000000 in
theorem getJ_core (b o : Nat) (mv : Option Nat) (S K : ByteArray) (F : Bool) (S_s : ByteArray) (S_t : ByteArray) (v_p : Int) (v_q : Int) (v_r : Int) (S_on : ByteArray) (v_st : Int) (w : World) (HC : Hid (∀ X, Below w.heap.size w X → X.cell? ⟨b, o, none⟩ = some (.map mv)))
    (HL : Hid (∀ X, Below w.heap.size w X → (Instr.lookup 87 (.map mv) (.string K) true).run Tryz.prog X = .ok (.tuple #[.agg #[.string S_s, .string S_t, .int .i64 v_p, .int .i64 v_q, .int .i64 v_r, .string S_on, .int .i64 v_st], .bool F]) X))
    (HK : Hid (∀ X, Calls Tryz.prog 90 #[.string S] X (RetBelow (.string K) X))) :
    Calls Tryz.prog 74 #[.pointer (some ⟨b, o, none⟩), .string S] w (RetBelow (.tuple #[.agg #[.string S_s, .string S_t, .int .i64 v_p, .int .i64 v_q, .int .i64 v_r, .string S_on, .int .i64 v_st], .bool F]) w) := by
  have HBX := Lib.hid (show ∀ X, Below (w.alloc (.cells #[.string ⟨#[]⟩, .string ⟨#[]⟩, .int .i64 0, .int .i64 0, .int .i64 0, .string ⟨#[]⟩, .int .i64 0] 46)).heap.size (w.alloc (.cells #[.string ⟨#[]⟩, .string ⟨#[]⟩, .int .i64 0, .int .i64 0, .int .i64 0, .string ⟨#[]⟩, .int .i64 0] 46)) X → X.heap[w.heap.size]? = some (.cells #[.string ⟨#[]⟩, .string ⟨#[]⟩, .int .i64 0, .int .i64 0, .int .i64 0, .string ⟨#[]⟩, .int .i64 0] 46 (0, 0)) from fun X h => (h.block _ (by simp)).trans (heap_alloc_new w _))
  go_enter Tryz.func74, Tryz.ntmps74
  go_wp2_with fail
  rename_i KC hK
  have HKK : ∀ (g : Nat) (V : World) (z2 z3 z5 z8 z9 z10 z11 z12 z13 z14 z15 z16 z17 z18 z19 : Value), Hid (V.heap[g]? = some (.cells #[.string S_s, .string S_t, .int .i64 v_p, .int .i64 v_q, .int .i64 v_r, .string S_on, .int .i64 v_st] 46 (0, 0))) → Hid (V.heap[w.heap.size]? = some (.cells #[.string ⟨#[]⟩, .string ⟨#[]⟩, .int .i64 0, .int .i64 0, .int .i64 0, .string ⟨#[]⟩, .int .i64 0] 46 (0, 0))) → Hid (w.heap.size < g) → Hid (Below w.heap.size w V) →
      KC { tmps := #[.pointer (some ⟨b, o, none⟩), .string S, z2, z3, .pointer (some ⟨w.heap.size, 0, none⟩), z5, .pointer (some ⟨g, 0, none⟩), .bool F, z8, z9, z10, z11, z12, z13, z14, z15, z16, z17, z18, z19], defers := [] } V := by
    intro g V z2 z3 z5 z8 z9 z10 z11 z12 z13 z14 z15 z16 z17 z18 z19 hg hx hne hb
    refine hK _ _ ?_
    clear hK HC HL HK HBX
    obtain ⟨p0, p1, p2, p3, p4, p5, p6, p7, p8, p9, p10, p11, p12, p13⟩ := rowc7 hg.out
    obtain ⟨q0, q1, q2, q3, q4, q5, q6, q7, q8, q9, q10, q11, q12, q13⟩ := rowc7 hx.out
    have hn2 : ¬ g = w.heap.size := by have := hne.out; omega
    go_wp2_with fail
    have R := wr7_row (a0 := .string S_s) (a1 := .string S_t) (a2 := .int .i64 v_p) (a3 := .int .i64 v_q) (a4 := .int .i64 v_r) (a5 := .string S_on) (a6 := .int .i64 v_st) hx.out
    have B := wr7_below (a0 := .string S_s) (a1 := .string S_t) (a2 := .int .i64 v_p) (a3 := .int .i64 v_q) (a4 := .int .i64 v_r) (a5 := .string S_on) (a6 := .int .i64 v_st) hb.out (Nat.le_refl _)
    refine (show bodyPost Tryz.prog Tryz.f74 _ Exit.ret _ (wr7 V w.heap.size (.string S_s) (.string S_t) (.int .i64 v_p) (.int .i64 v_q) (.int .i64 v_r) (.string S_on) (.int .i64 v_st)) from ?_)
    generalize wr7 V w.heap.size (.string S_s) (.string S_t) (.int .i64 v_p) (.int .i64 v_q) (.int .i64 v_r) (.string S_on) (.int .i64 v_st) = W at *
    obtain ⟨r0, r1, r2, r3, r4, r5, r6, r7, r8, r9, r10, r11, r12, r13⟩ := rowc7 R
    refine bodyPost_ret (v := .tuple #[.agg #[.string S_s, .string S_t, .int .i64 v_p, .int .i64 v_q, .int .i64 v_r, .string S_on, .int .i64 v_st], .bool F]) (by simp [results, Tryz.results74, go_sem, r0, r1, r2, r3, r4, r5, r6]) rfl ⟨rfl, B⟩
  clear hK
  have hb0 := Lib.hid ((Below.refl w.heap.size w).alloc (Nat.le_refl _) (.cells #[.string ⟨#[]⟩, .string ⟨#[]⟩, .int .i64 0, .int .i64 0, .int .i64 0, .string ⟨#[]⟩, .int .i64 0] 46))
  have c1 := HC.out _ (Below.refl _ w)
  have hlt := lt_of_cell c1
  have hbA := Lib.hid (hb0.out.drew.alloc (by simp) (.cells #[.string ⟨#[]⟩, .string ⟨#[]⟩, .int .i64 0, .int .i64 0, .int .i64 0, .string ⟨#[]⟩, .int .i64 0] 46))
  have HN := Lib.hid (show ((w.alloc (.cells #[.string ⟨#[]⟩, .string ⟨#[]⟩, .int .i64 0, .int .i64 0, .int .i64 0, .string ⟨#[]⟩, .int .i64 0] 46)).drew.alloc (.cells #[.string ⟨#[]⟩, .string ⟨#[]⟩, .int .i64 0, .int .i64 0, .int .i64 0, .string ⟨#[]⟩, .int .i64 0] 46)).heap[w.heap.size + 1]? = some (.cells #[.string ⟨#[]⟩, .string ⟨#[]⟩, .int .i64 0, .int .i64 0, .int .i64 0, .string ⟨#[]⟩, .int .i64 0] 46 (0, 0)) from by have := heap_alloc_new (w.alloc (.cells #[.string ⟨#[]⟩, .string ⟨#[]⟩, .int .i64 0, .int .i64 0, .int .i64 0, .string ⟨#[]⟩, .int .i64 0] 46)).drew (.cells #[.string ⟨#[]⟩, .string ⟨#[]⟩, .int .i64 0, .int .i64 0, .int .i64 0, .string ⟨#[]⟩, .int .i64 0] 46); rwa [show (w.alloc (.cells #[.string ⟨#[]⟩, .string ⟨#[]⟩, .int .i64 0, .int .i64 0, .int .i64 0, .string ⟨#[]⟩, .int .i64 0] 46)).drew.heap.size = w.heap.size + 1 from by simp] at this)
  go_region_with (first | (go_at_call 90; (with_reducible refine (HK.out _).mono ?_); rintro e w1 ⟨rfl, hb⟩; have hb2 := Lib.hid (hb0.out.drew.trans (hb.mono (by simp))); have d1 := HC.out _ hb2.out; have hlt1 := lt_of_cell d1; have d2 := HL.out _ hb2.out; have hb3 := Lib.hid (hb2.out.alloc hb2.out.size (.cells #[.string ⟨#[]⟩, .string ⟨#[]⟩, .int .i64 0, .int .i64 0, .int .i64 0, .string ⟨#[]⟩, .int .i64 0] 46)); have g2 := HL.out _ hb3.out; have FB := Lib.hid (HBX.out w1 ((Below.refl _ _).drew.trans hb))) | (go_at_call 90; (with_reducible refine (HK.out _).mono ?_); rintro e w1 ⟨rfl, hb⟩; have FR := Lib.hid ((hb.block (w.heap.size + 1) (by simp)).trans HN.out); obtain ⟨q0, q1, q2, q3, q4, q5, q6, q7, q8, q9, q10, q11, q12, q13⟩ := rowc7 FR.out; have FB := Lib.hid (HBX.out w1 ((((Below.refl _ _).alloc (Nat.le_refl _) (.cells #[.string ⟨#[]⟩, .string ⟨#[]⟩, .int .i64 0, .int .i64 0, .int .i64 0, .string ⟨#[]⟩, .int .i64 0] 46)).drew).trans (hb.mono (by simp)))); have hb2 := Lib.hid (hbA.out.trans (hb.mono (by simp; omega))); have d1 := HC.out _ hb2.out; have hlt1 := lt_of_cell d1; have d2 := HL.out _ hb2.out))
  all_goals go_simp
  all_goals first
    | exact HKK w1.heap.size _ _ _ _ _ _ _ _ _ _ _ _ _ _ _ _ (Lib.hid (heap_alloc_new w1 _)) (Lib.hid ((Below.heap_alloc w1 _ _ (by have := hb2.out.size; have := (Array.getElem?_eq_some_iff.1 FB.out).1; omega)).trans FB.out)) (Lib.hid (by have := hb.size; simp at this; omega)) (Lib.hid (hb2.out.alloc hb2.out.size _))
    | exact HKK (w.heap.size + 1) _ _ _ _ _ _ _ _ _ _ _ _ _ _ _ _ (Lib.hid (wr7_row FR.out)) (Lib.hid ((wr7_far (by omega)).trans FB.out)) (Lib.hid (by omega)) (Lib.hid (wr7_below hb2.out (by omega)))
theorem getJ_any {b o : Nat} {mv : Option Nat} {l : List (Tx × Jb)} (s : Tx) (w : World) (hc : w.cell? ⟨b, o, none⟩ = some (.map mv)) (hm : ThAt jobV w mv l) (hs : s.length ≤ 281474976710656) :
    Calls Tryz.prog 74 #[.pointer (some ⟨b, o, none⟩), .string (str s)] w (RetBelow (.tuple #[jobV ((findM l (kOf s)).getD PS.zj), .bool (findM l (kOf s)).isSome]) w) :=
  getJ_core b o mv (str s) (str (kOf s)) _ _ _ _ _ _ _ _ w (Lib.hid fun X hX => cellB hc hX (lt_of_cell hc)) (Lib.hid fun X hX => (hm.below hX).look Tryz.underlying87 (zero_J X) (by have := kOf_len s; simp only [maxLen]; omega)) (Lib.hid fun X => keyOf_any s X hs)
theorem eq_none_J (m : Option Nat) (w : World) : (binOp .eql 87 (.map m) (.map none)).run Tryz.prog w = .ok (.bool m.isNone) w := by
  simp only [binOp]
  simp [run_equal_map_nil w 87 9 46 m Tryz.underlying87]
def PutPostJ (K : Tx) (v : Jb) (l : List (Tx × Jb)) (m : Nat) (w : World) (e : Ending) (w' : World) : Prop := e = .returned (.tuple #[]) ∧ MapAt jobV w' m (setM K v l) ∧ Fr (· = m) w w'
set_option maxHeartbeats 1000000 in
theorem putJ_core (b o m : Nat) (S K : ByteArray) (P : World → Prop) (S_s : ByteArray) (S_t : ByteArray) (v_p : Int) (v_q : Int) (v_r : Int) (S_on : ByteArray) (v_st : Int) (w : World) (hb : b < w.heap.size) (hbm : m < w.heap.size) (HC : Hid (∀ X, Below w.heap.size w X → X.cell? ⟨b, o, none⟩ = some (.map (some m))))
    (HU : Hid (∀ X, Below w.heap.size w X → ∃ w', (Instr.mapUpdate 87 (.map (some m)) (.string K) (.agg #[.string S_s, .string S_t, .int .i64 v_p, .int .i64 v_q, .int .i64 v_r, .string S_on, .int .i64 v_st])).run Tryz.prog X = .ok () w' ∧ P w' ∧ Fr (· = m) X w'))
    (HK : Hid (∀ X, Calls Tryz.prog 90 #[.string S] X (RetBelow (.string K) X))) :
    Calls Tryz.prog 91 #[.pointer (some ⟨b, o, none⟩), .string S, .agg #[.string S_s, .string S_t, .int .i64 v_p, .int .i64 v_q, .int .i64 v_r, .string S_on, .int .i64 v_st]] w fun e w' => e = .returned (.tuple #[]) ∧ P w' ∧ Fr (· = m) w w' := by
  have HB0 := Lib.hid ((Below.refl w.heap.size w).alloc (Nat.le_refl _) (.cells #[.string S_s, .string S_t, .int .i64 v_p, .int .i64 v_q, .int .i64 v_r, .string S_on, .int .i64 v_st] 46))
  have c1 := HC.out _ (Below.refl _ w)
  have HN := Lib.hid (show ∀ X, Below (w.alloc (.cells #[.string S_s, .string S_t, .int .i64 v_p, .int .i64 v_q, .int .i64 v_r, .string S_on, .int .i64 v_st] 46)).heap.size (w.alloc (.cells #[.string S_s, .string S_t, .int .i64 v_p, .int .i64 v_q, .int .i64 v_r, .string S_on, .int .i64 v_st] 46)) X → X.heap[w.heap.size]? = some (.cells #[.string S_s, .string S_t, .int .i64 v_p, .int .i64 v_q, .int .i64 v_r, .string S_on, .int .i64 v_st] 46 (0, 0)) from fun X h => (h.block _ (by simp)).trans (heap_alloc_new w _))
  have he := fun W => eq_none_J (some m) W
  rw [show (some m).isNone = false from rfl] at he
  clear hbm
  go_enter Tryz.func91, Tryz.ntmps91
  go_wp2_with fail
  go_region_with (first | (go_at_call 90; (with_reducible refine (HK.out _).mono ?_); rintro e w1 ⟨rfl, hb1⟩; have hb2 := Lib.hid (HB0.out.drew.trans (hb1.mono (by simp))); obtain ⟨q0, q1, q2, q3, q4, q5, q6, q7, q8, q9, q10, q11, q12, q13⟩ := rowc7 (HN.out w1 ((Below.refl _ _).drew.trans hb1)); have d1 := HC.out _ hb2.out; obtain ⟨w2, hrun, hP, hF⟩ := HU.out _ hb2.out; have HP := Lib.hid hP; have HF := Lib.hid hF; clear hP hF))
  all_goals (go_end0; exact ⟨rfl, HP.out, (Fr.of_below hb2.out).trans HF.out fun i q => .inl q⟩)
theorem putJ_some {b o m : Nat} {l : List (Tx × Jb)} (s : Tx) (v : Jb) (w : World) (hc : w.cell? ⟨b, o, none⟩ = some (.map (some m))) (hm : MapAt jobV w m l) (hs : s.length ≤ 281474976710656) (hl : l.length ≤ 1000000) :
    Calls Tryz.prog 91 #[.pointer (some ⟨b, o, none⟩), .string (str s), jobV v] w (PutPostJ (kOf s) v l m w) :=
  putJ_core b o m (str s) (str (kOf s)) (fun w' => MapAt jobV w' m (setM (kOf s) v l)) _ _ _ _ _ _ _ w (lt_of_cell hc) hm.lt (Lib.hid fun X hX => cellB hc hX (lt_of_cell hc))
    (Lib.hid fun X hX => by
      have hm' := hm.keep (hX.block m hm.lt)
      obtain ⟨w', h1, h2, h3, h4⟩ := hm'.store (t := 87) (e := 46) Tryz.underlying87 (k := kOf s) (by have := kOf_len s; simp only [maxLen]; omega) (by simp only [maxLen]; omega) v
      exact ⟨w', h1, h2, (Fr.refl _ X).grown h3 fun k hk => by cases hk; exact .inl rfl⟩) (Lib.hid fun X => keyOf_any s X hs)
set_option maxHeartbeats 1000000 in
theorem putJ_nilcore (b o : Nat) (S K : ByteArray) (P : World → Prop) (S_s : ByteArray) (S_t : ByteArray) (v_p : Int) (v_q : Int) (v_r : Int) (S_on : ByteArray) (v_st : Int) (w : World) (hb : b < w.heap.size) (c1 : w.cell? ⟨b, o, none⟩ = some (.map none)) (f1 : w.frozen? ⟨b, o, none⟩ = false)
    (HU : Hid (∀ X, X.heap[w.heap.size + 1]? = some (.map #[] 0) → ∃ w', (Instr.mapUpdate 87 (.map (some (w.heap.size + 1))) (.string K) (.agg #[.string S_s, .string S_t, .int .i64 v_p, .int .i64 v_q, .int .i64 v_r, .string S_on, .int .i64 v_st])).run Tryz.prog X = .ok () w' ∧ P w' ∧ Fr (· = w.heap.size + 1) X w'))
    (HK : Hid (∀ X, Calls Tryz.prog 90 #[.string S] X (RetBelow (.string K) X))) :
    Calls Tryz.prog 91 #[.pointer (some ⟨b, o, none⟩), .string S, .agg #[.string S_s, .string S_t, .int .i64 v_p, .int .i64 v_q, .int .i64 v_r, .string S_on, .int .i64 v_st]] w fun e w' => e = .returned (.tuple #[]) ∧ P w' ∧ w'.heap[b]? = (w.setCell ⟨b, o, none⟩ (.map (some (w.heap.size + 1)))).heap[b]? ∧ Fr (· = b) w w' := by
  have he := fun W => eq_none_J none W
  rw [show (none : Option Nat).isNone = true from rfl] at he
  have hmm := @run_makeMap Tryz.prog
  go_enter Tryz.func91, Tryz.ntmps91
  go_wp2_with fail
  have G1 : (((w.setCell ⟨b, o, none⟩ (.map (some (w.heap.size + 1)))).alloc (.cells #[.string S_s, .string S_t, .int .i64 v_p, .int .i64 v_q, .int .i64 v_r, .string S_on, .int .i64 v_st] 46)).alloc (.map #[] 0)).heap.size = w.heap.size + 2 := by simp [World.setCell]
  have G2 : (((w.setCell ⟨b, o, none⟩ (.map (some (w.heap.size + 1)))).alloc (.cells #[.string S_s, .string S_t, .int .i64 v_p, .int .i64 v_q, .int .i64 v_r, .string S_on, .int .i64 v_st] 46)).alloc (.map #[] 0)).heap[w.heap.size + 1]? = some (.map #[] 0) := by
    have := heap_alloc_new ((w.setCell ⟨b, o, none⟩ (.map (some (w.heap.size + 1)))).alloc (.cells #[.string S_s, .string S_t, .int .i64 v_p, .int .i64 v_q, .int .i64 v_r, .string S_on, .int .i64 v_st] 46)) (.map #[] 0)
    rwa [show ((w.setCell ⟨b, o, none⟩ (.map (some (w.heap.size + 1)))).alloc (.cells #[.string S_s, .string S_t, .int .i64 v_p, .int .i64 v_q, .int .i64 v_r, .string S_on, .int .i64 v_st] 46)).heap.size = w.heap.size + 1 from by simp [World.setCell]] at this
  have G3 : (((w.setCell ⟨b, o, none⟩ (.map (some (w.heap.size + 1)))).alloc (.cells #[.string S_s, .string S_t, .int .i64 v_p, .int .i64 v_q, .int .i64 v_r, .string S_on, .int .i64 v_st] 46)).alloc (.map #[] 0)).heap[w.heap.size]? = some (.cells #[.string S_s, .string S_t, .int .i64 v_p, .int .i64 v_q, .int .i64 v_r, .string S_on, .int .i64 v_st] 46 (0, 0)) := by
    rw [Below.heap_alloc _ _ _ (by simp [World.setCell])]
    have := heap_alloc_new (w.setCell ⟨b, o, none⟩ (.map (some (w.heap.size + 1)))) (.cells #[.string S_s, .string S_t, .int .i64 v_p, .int .i64 v_q, .int .i64 v_r, .string S_on, .int .i64 v_st] 46)
    rwa [show (w.setCell ⟨b, o, none⟩ (.map (some (w.heap.size + 1)))).heap.size = w.heap.size from by simp [World.setCell]] at this
  have G4 : (((w.setCell ⟨b, o, none⟩ (.map (some (w.heap.size + 1)))).alloc (.cells #[.string S_s, .string S_t, .int .i64 v_p, .int .i64 v_q, .int .i64 v_r, .string S_on, .int .i64 v_st] 46)).alloc (.map #[] 0)).heap[b]? = (w.setCell ⟨b, o, none⟩ (.map (some (w.heap.size + 1)))).heap[b]? := by
    rw [Below.heap_alloc _ _ _ (by simp [World.setCell]; omega), Below.heap_alloc _ _ _ (by simp [World.setCell]; omega)]
  have G5 : (((w.setCell ⟨b, o, none⟩ (.map (some (w.heap.size + 1)))).alloc (.cells #[.string S_s, .string S_t, .int .i64 v_p, .int .i64 v_q, .int .i64 v_r, .string S_on, .int .i64 v_st] 46)).alloc (.map #[] 0)).cell? ⟨b, o, none⟩ = some (.map (some (w.heap.size + 1))) := by
    rw [show ∀ X : World, X.heap[b]? = (w.setCell ⟨b, o, none⟩ (.map (some (w.heap.size + 1)))).heap[b]? → X.cell? ⟨b, o, none⟩ = (w.setCell ⟨b, o, none⟩ (.map (some (w.heap.size + 1)))).cell? ⟨b, o, none⟩ from fun X h => by simp only [World.cell?, h]]
    · exact World.cell?_setCell_same w _ _ c1
    · exact G4
  have G6 : Fr (· = b) w (((w.setCell ⟨b, o, none⟩ (.map (some (w.heap.size + 1)))).alloc (.cells #[.string S_s, .string S_t, .int .i64 v_p, .int .i64 v_q, .int .i64 v_r, .string S_on, .int .i64 v_st] 46)).alloc (.map #[] 0)) := (((Fr.refl (· = b) w).setCell (p := ⟨b, o, none⟩) (.inl rfl) _).alloc _).alloc _
  generalize ((w.setCell ⟨b, o, none⟩ (.map (some (w.heap.size + 1)))).alloc (.cells #[.string S_s, .string S_t, .int .i64 v_p, .int .i64 v_q, .int .i64 v_r, .string S_on, .int .i64 v_st] 46)).alloc (.map #[] 0) = W at *
  have H2 := Lib.hid G2
  have H3 := Lib.hid G3
  have H4 := Lib.hid G4
  have H6 := Lib.hid G6
  obtain ⟨p0, p1, p2, p3, p4, p5, p6, p7, p8, p9, p10, p11, p12, p13⟩ := rowc7 G3
  clear G2 G3 G4 G6 he hmm c1 f1
  go_region_with (first | (go_at_call 90; (with_reducible refine (HK.out _).mono ?_); rintro e w1 ⟨rfl, hb1⟩; have hb2 := Lib.hid ((Below.refl W.heap.size W).drew.trans hb1); obtain ⟨q0, q1, q2, q3, q4, q5, q6, q7, q8, q9, q10, q11, q12, q13⟩ := rowc7 ((hb2.out.block _ (by omega)).trans H3.out); have d1 := cellB G5 hb2.out (by omega); obtain ⟨w2, hrun, hP, hF⟩ := HU.out w1 ((hb2.out.block _ (by omega)).trans H2.out); have HP := Lib.hid hP; have HF := Lib.hid hF; clear hP hF))
  all_goals (go_end0; exact ⟨rfl, HP.out, ((HF.out.block b (by have := hb2.out.size; omega) (by omega)).trans (hb2.out.block b (by omega))).trans H4.out, (H6.out.trans (Fr.of_below (S := (· = b)) hb2.out) (fun i q => .inl q)).trans HF.out fun i q => .inr (by omega)⟩)
theorem putJ_nil {b o : Nat} (s : Tx) (v : Jb) (w : World) (hc : w.cell? ⟨b, o, none⟩ = some (.map none)) (hf : w.frozen? ⟨b, o, none⟩ = false) (hs : s.length ≤ 281474976710656) :
    Calls Tryz.prog 91 #[.pointer (some ⟨b, o, none⟩), .string (str s), jobV v] w fun e w' => e = .returned (.tuple #[]) ∧ MapAt jobV w' (w.heap.size + 1) (setM (kOf s) v []) ∧ w'.heap[b]? = (w.setCell ⟨b, o, none⟩ (.map (some (w.heap.size + 1)))).heap[b]? ∧ Fr (· = b) w w' :=
  putJ_nilcore b o (str s) (str (kOf s)) (fun w' => MapAt jobV w' (w.heap.size + 1) (setM (kOf s) v [])) _ _ _ _ _ _ _ w (lt_of_cell hc) hc hf
    (Lib.hid fun X hX => by
      have hm' : MapAt jobV X (w.heap.size + 1) [] := by
        obtain ⟨es, ck, h1, h2⟩ := MapAt.made jobV w
        rw [heap_alloc_new] at h1
        cases h1
        exact ⟨_, _, hX, h2⟩
      obtain ⟨w', h1, h2, h3, h4⟩ := hm'.store (t := 87) (e := 46) Tryz.underlying87 (k := kOf s) (by have := kOf_len s; simp only [maxLen]; omega) (by simp [maxLen]) v
      exact ⟨w', h1, h2, (Fr.refl _ X).grown h3 fun k hk => by cases hk; exact .inl rfl⟩) (Lib.hid fun X => keyOf_any s X hs)
theorem fullJ_any {b o : Nat} {mv : Option Nat} {l : List (Tx × Jb)} (n : Int) (w : World) (hc : w.cell? ⟨b, o, none⟩ = some (.map mv)) (hm : ThAt jobV w mv l) :
    Calls Tryz.prog 120 #[.pointer (some ⟨b, o, none⟩), .int .i64 n] w fun e w' => e = .returned (.bool (decide (n ≤ l.length))) ∧ w = w' := by
  have hl := fun ty => hm.len Tryz.underlying87 ty
  clear hm
  go_enter Tryz.func120, Tryz.ntmps120
  go_wp2_with fail
  go_ret
  exact ⟨rfl, rfl⟩
theorem remJ_core (b o m : Nat) (S K : ByteArray) (P : World → Prop) (w : World) (hb : b < w.heap.size) (HC : Hid (∀ X, Below w.heap.size w X → X.cell? ⟨b, o, none⟩ = some (.map (some m))))
    (HU : Hid (∀ X, Below w.heap.size w X → ∃ w', (∀ ty, (Builtin.delete_ #[87, 9] ty #[.map (some m), .string K]).run Tryz.prog X = .ok (.tuple #[]) w') ∧ P w' ∧ Fr (· = m) X w'))
    (HK : Hid (∀ X, Calls Tryz.prog 90 #[.string S] X (RetBelow (.string K) X))) :
    Calls Tryz.prog 89 #[.pointer (some ⟨b, o, none⟩), .string S] w fun e w' => e = .returned (.tuple #[]) ∧ P w' ∧ Fr (· = m) w w' := by
  have c1 := HC.out _ (Below.refl _ w)
  go_enter Tryz.func89, Tryz.ntmps89
  go_wp2_with fail
  go_region_with (first | (go_at_call 90; (with_reducible refine (HK.out _).mono ?_); rintro e w1 ⟨rfl, hb1⟩; have hb2 := Lib.hid ((Below.refl w.heap.size w).drew.trans hb1); have d1 := HC.out _ hb2.out; obtain ⟨w2, hrun, hP, hF⟩ := HU.out _ hb2.out; have HP := Lib.hid hP; have HF := Lib.hid hF; clear hP hF))
  all_goals (go_end0; exact ⟨rfl, HP.out, (Fr.of_below hb2.out).trans HF.out fun i q => .inl q⟩)
theorem remJ_some {b o m : Nat} {l : List (Tx × Jb)} (s : Tx) (w : World) (hc : w.cell? ⟨b, o, none⟩ = some (.map (some m))) (hm : MapAt jobV w m l) (hs : s.length ≤ 281474976710656) :
    Calls Tryz.prog 89 #[.pointer (some ⟨b, o, none⟩), .string (str s)] w fun e w' => e = .returned (.tuple #[]) ∧ MapAt jobV w' m (dropM (kOf s) l) ∧ Fr (· = m) w w' :=
  remJ_core b o m (str s) (str (kOf s)) (fun w' => MapAt jobV w' m (dropM (kOf s) l)) w (lt_of_cell hc) (Lib.hid fun X hX => cellB hc hX (lt_of_cell hc))
    (Lib.hid fun X hX => by
      have hm' := hm.keep (hX.block m hm.lt)
      obtain ⟨w', h1, h2, h3, h4⟩ := hm'.del (t := 87) (e := 46) Tryz.underlying87 (k := kOf s) (by have := kOf_len s; simp only [maxLen]; omega) 0
      exact ⟨w', fun ty => h1, h2, (Fr.refl _ X).grown h3 fun k hk => by cases hk; exact .inl rfl⟩) (Lib.hid fun X => keyOf_any s X hs)
end Go.Proofs.YtphclpjekpdifaaGreat
