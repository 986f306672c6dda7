import Derived.Test.YtodalljccjcejaaBu
namespace Go.Proofs.Ytodalljccjcejaa
open Go.RowKit
set_option linter.unusedVariables false

def lowB (b : UInt8) : UInt8 := if 65 ≤ b.toNat ∧ b.toNat ≤ 90 then b + 32 else b
theorem lowB_nat (b : UInt8) : (lowB b).toNat = lowN b.toNat := by
  unfold lowB lowN
  split
  · rw [UInt8.toNat_add, show (32 : UInt8).toNat = 32 from rfl]; omega
  · rfl
def key (l : List UInt8) : List UInt8 := l.map lowB
theorem key_len (l : List UInt8) : (key l).length = l.length := by simp [key]
theorem lowN_ge {c : Nat} (h : 91 ≤ c) : lowN c = c := by unfold lowN; rw [if_neg (by omega)]
theorem g_key (l : List UInt8) (k : Nat) : Pl.g (key l) k = lowN (Pl.g l k) := by
  unfold Pl.g key
  rw [List.getElem?_map]
  cases l[k]? with
  | none => rfl
  | some b => simp only [Option.map_some, Option.getD_some]; exact lowB_nat b
theorem ct_key (l : List UInt8) (k : Nat) : Pl.ct (key l) k = Pl.ct l k := by
  unfold Pl.ct
  rw [g_key, key_len]
  have := lowN_is (Pl.g l k)
  congr 1
  rw [Bool.eq_iff_iff]
  simp only [Bool.and_eq_true, decide_eq_true_eq]
  omega
theorem rune_key (l : List UInt8) : Pl.rune (key l) = (lowN (Pl.rune l).1, (Pl.rune l).2.1, (Pl.rune l).2.2) := by
  have hb : Pl.bad = (lowN Pl.bad.1, Pl.bad.2.1, Pl.bad.2.2) := by decide
  have k0 := g_key l 0
  have n1 := @Pl.ct_g l 1
  have n2 := @Pl.ct_g l 2
  have n3 := @Pl.ct_g l 3
  have e1 : Pl.ct l 1 = true → Pl.g (key l) 1 = Pl.g l 1 := fun h => by rw [g_key]; exact lowN_ge (by have := n1 h; omega)
  have e2 : Pl.ct l 2 = true → Pl.g (key l) 2 = Pl.g l 2 := fun h => by rw [g_key]; exact lowN_ge (by have := n2 h; omega)
  have e3 : Pl.ct l 3 = true → Pl.g (key l) 3 = Pl.g l 3 := fun h => by rw [g_key]; exact lowN_ge (by have := n3 h; omega)
  have hi := lowN_is (Pl.g l 0)
  unfold Pl.rune
  rw [ct_key, ct_key, ct_key]
  by_cases h0 : Pl.g l 0 < 128
  · rw [if_pos h0, k0, if_pos (by omega)]
  rw [if_neg h0]
  have e0 : Pl.g (key l) 0 = Pl.g l 0 := by rw [k0]; exact lowN_ge (by omega)
  rw [e0, if_neg h0]
  by_cases h1 : 194 ≤ Pl.g l 0 ∧ Pl.g l 0 ≤ 223
  · rw [if_pos h1, if_pos h1]
    by_cases c : Pl.ct l 1 = true
    · rw [if_pos c, if_pos c, e1 c]
      have := n1 c
      rw [lowN_ge (by dsimp only; omega)]
    · rw [if_neg c, if_neg c]; exact hb
  rw [if_neg h1, if_neg h1]
  by_cases h2 : 224 ≤ Pl.g l 0 ∧ Pl.g l 0 ≤ 239
  · rw [if_pos h2, if_pos h2]
    by_cases c : Pl.ct l 1 = true ∧ Pl.ct l 2 = true
    · rw [if_pos c, if_pos c, e1 c.1, e2 c.2]
      split
      · exact hb
      · rw [lowN_ge (by dsimp only; omega)]
    · rw [if_neg c, if_neg c]; exact hb
  rw [if_neg h2, if_neg h2]
  by_cases h3 : 240 ≤ Pl.g l 0 ∧ Pl.g l 0 ≤ 244
  · rw [if_pos h3, if_pos h3]
    by_cases c : Pl.ct l 1 = true ∧ Pl.ct l 2 = true ∧ Pl.ct l 3 = true
    · rw [if_pos c, if_pos c, e1 c.1, e2 c.2.1, e3 c.2.2]
      split
      · exact hb
      · rw [lowN_ge (by dsimp only; omega)]
    · rw [if_neg c, if_neg c]; exact hb
  · rw [if_neg h3, if_neg h3]; exact hb
theorem key_drop (l : List UInt8) (k : Nat) : (key l).drop k = key (l.drop k) := by simp [key]
theorem key_take (l : List UInt8) (k : Nat) : (key l).take k = key (l.take k) := by simp [key]
theorem key_ne {l : List UInt8} (h : l ≠ []) : key l ≠ [] := by simp [key, h]
theorem runes_key (l : List UInt8) : Pl.runes (key l) = (Pl.runes l).map fun r => (lowN r.1, r.2.1, r.2.2) := by
  by_cases h : l = []
  · subst h; rw [show key [] = [] from rfl, Pl.runes_nil]; rfl
  · have hbd := Pl.rune_bd l h
    rw [Pl.runes_cons (key_ne h), Pl.runes_cons h, rune_key, List.map_cons]
    dsimp only
    rw [key_drop, runes_key (l.drop (Pl.rune l).2.1)]
termination_by l.length
decreasing_by
  rw [List.length_drop]
  omega
theorem nums_key (l : List UInt8) : Pl.nums (key l) = (Pl.nums l).map lowN := by
  unfold Pl.nums; rw [runes_key, List.map_map, List.map_map]; rfl
theorem okay_key (l : List UInt8) : Pl.okay (key l) = Pl.okay l := by
  unfold Pl.okay; rw [runes_key, List.all_map]; rfl
theorem alw_low (c : Nat) : alw (lowN c) = alw c := by
  rw [Bool.eq_iff_iff, alw_iff, alw_iff]
  have := lowN_is c
  omega
theorem may_key (l : List UInt8) : may (key l) = may l := by
  unfold may
  rw [nums_key, runes_key, List.length_map, List.all_map, g_key]
  congr 2
  · congr 1
    funext c
    exact alw_low c
  · rw [Bool.eq_iff_iff, beq_iff_eq, beq_iff_eq]
    have := lowN_is (Pl.g l 0)
    omega
theorem key_key (l : List UInt8) : key (key l) = key l := by
  unfold key
  rw [List.map_map]
  apply List.map_congr_left
  intro b _
  rw [Function.comp, ← UInt8.toNat_inj, lowB_nat, lowB_nat]
  have := lowN_is b.toNat
  have := lowN_is (lowN b.toNat)
  omega
/-- a right rune made small: its bytes -/
theorem enc_key {l : List UInt8} (hl : l ≠ []) (h : (Pl.rune l).2.2 = true) : Lib.encodeRune ((lowN (Pl.rune l).1 : Nat) : Int) = key (l.take (Pl.rune l).2.1) := by
  have e := rune_key l
  have := Pl.enc (key_ne hl) (by rw [e]; exact h)
  rw [e] at this
  dsimp only at this
  rw [this, key_take]
theorem alw_right {l : List UInt8} (h : alw (Pl.rune l).1 = true) : (Pl.rune l).2.2 = true := by
  cases hr : (Pl.rune l).2.2
  · rw [Pl.rune_bad hr] at h; cases h
  · rfl
theorem alw_okay (l : List UInt8) (h : (Pl.nums l).all alw = true) : Pl.okay l = true := by
  by_cases hl : l = []
  · subst hl; exact Pl.okay_nil
  · rw [Pl.nums_cons hl, List.all_cons, Bool.and_eq_true] at h
    have hbd := Pl.rune_bd l hl
    rw [Pl.okay_cons hl, alw_right h.1, Bool.true_and]
    exact alw_okay _ h.2
termination_by l.length
decreasing_by
  rw [List.length_drop]
  omega
theorem may_okay {l : List UInt8} (h : may l = true) : Pl.okay l = true := alw_okay l ((may_iff l).1 h).2.2.1
theorem wd_le (l : List UInt8) : l.length ≤ 4 * (Pl.runes l).length := by
  by_cases h : l = []
  · subst h; simp
  · have hbd := Pl.rune_bd l h
    have ih := wd_le (l.drop (Pl.rune l).2.1)
    rw [Pl.runes_cons h, List.length_cons]
    rw [List.length_drop] at ih
    omega
termination_by l.length
decreasing_by
  rw [List.length_drop]
  omega

def keyOf (l : List UInt8) : List UInt8 := if may l = true then key l else []
def errOf (l : List UInt8) : Int := if may l = true then 0 else 5

set_option maxHeartbeats 4000000 in
set_option maxRecDepth 100000 in
theorem key_any (s : ByteArray) (w : World) (hs : s.size ≤ 281474976710656) :
    Calls Try.prog 13 #[.string s] w fun e w' => e = .returned (.tuple #[.string (str (keyOf s.data.toList)), .int .i64 (errOf s.data.toList)]) ∧ Below w.heap.size w w' := by
  by_cases hm : may s.data.toList = true
  · rw [show keyOf s.data.toList = key s.data.toList from if_pos hm, show errOf s.data.toList = 0 from if_pos hm, ← L_zero]
    have hmm := hm
    rw [← L_zero] at hmm
    have HO := Lib.hid ((may_iff _).1 hmm)
    have hsz : s.size ≤ 96 := by
      have h1 := wd_le (L s 0)
      rw [L_len] at h1
      have := HO.out.2.1
      omega
    have HA := Lib.hid HO.out.2.2.1
    go_enter Try.func13, Try.ntmps13
    go_wp2_with (go_at_call 15; refine (may_any s w hs).mono ?_; rintro e w1 ⟨rfl, hb1⟩; rw [hm])
    have hsz1 := hb1.size
    have HB1 := Lib.hid hb1
    clear hb1
    generalize hB : w1.heap.size = B at *
    go_loopw [] (fun wr => ∃ (pos : Nat) (acc : List UInt8), Lib.IsBuilderF 42 5 B B (Lib.byteCells acc) wr ∧ wr.heap[B + 1]? = some (.stringIter s pos) ∧ Below B w1 wr ∧ acc ++ key (L s pos) = key (L s 0) ∧ (Pl.nums (L s pos)).all alw = true ∧ pos ≤ s.size) (fun wr => s.size - wr.iterPos (B + 1))
    case atStart =>
      refine ⟨0, [], ?_, ?_, ((Below.refl _ w1).alloc (by omega) _).alloc (by simp; omega) _, by simp, HA.out, by omega⟩
      · rw [← hB]
        exact (Lib.IsBuilderF.of (Lib.fresh_isBuilder 42 5 w1)).alloc _
      · have := World.iter_heap (w1.alloc (.cells #[.pointer none, .slice none 0 0] 42)) s 0
        rw [World.size_alloc, hB] at this
        exact this
    case round =>
      obtain ⟨pos, acc, hI, hit, hbw, hacc, hall, hpa⟩ := hrel
      have hszr : B + 1 < wr.heap.size := (Array.getElem?_eq_some_iff.1 hit).1
      have HC := Lib.hid hacc
      have hal : acc.length ≤ 96 := by
        have := congrArg List.length hacc
        rw [List.length_append, key_len, key_len, L_len, L_len] at this
        omega
      clear hacc
      by_cases hp : pos < s.size
      · have hnx : ∀ ty, (Instr.next (.pointer (some ⟨B + 1, 0, none⟩)) true ty).run Try.prog wr = _ := fun ty => Lib.run_next_any_at wr (B + 1) s pos ty hit hp
        rw [dec hp] at hnx
        have hbd := Pl.rune_bd (L s pos) (L_ne hp)
        have hll := L_len s pos
        rw [nums_step hp, List.all_cons, Bool.and_eq_true] at hall
        have HE := Lib.hid (enc_key (L_ne hp) (alw_right hall.1))
        have HA2 := Lib.hid hall.2
        have hI2 := hI.iterAt hit (pos + (Pl.rune (L s pos)).2.1)
        have hit2 := Lib.iterAt_heap wr (B + 1) s pos (pos + (Pl.rune (L s pos)).2.1) hit
        have hbw2 := Lib.below_iterAt hbw (k := B + 1) (by omega) s (pos + (Pl.rune (L s pos)).2.1)
        have hsz2 : B + 1 < (wr.iterAt (B + 1) s (pos + (Pl.rune (L s pos)).2.1)).heap.size := by rw [Lib.iterAt_size]; exact hszr
        have HI := Lib.hid hI2
        have HIT := Lib.hid hit2
        have HBW := Lib.hid hbw2
        have HP := Lib.hid (show 1 ≤ (Pl.rune (L s pos)).2.1 ∧ pos + (Pl.rune (L s pos)).2.1 ≤ s.size by omega)
        have hc := hbd.2.2.2
        have hlc := lowN_is (Pl.rune (L s pos)).1
        clear hI2 hit2 hbw2 hbd hll hall
        generalize hr : Pl.rune (L s pos) = r at *
        go_wp2_with (first | (go_at_call 24; refine (lower_any _ _ hc).mono ?_; rintro e w2 ⟨rfl, rfl⟩) | (go_at_call 23; refine (writeRune_any B B _ _ (by omega) (by omega) _ HI.out (by rw [Lib.byteCells_length]; omega) (by omega)).mono ?_; rintro e w2 ⟨rfl, h1, b1, k1⟩))
        go_roundw
        case rel =>
          have hit3 := k1.iter HIT.out (by omega)
          refine ⟨pos + r.2.1, acc ++ Lib.encodeRune ((lowN r.1 : Nat) : Int), ?_, hit3, HBW.out.trans b1, ?_, HA2.out, HP.out.2⟩
          · rw [Lib.byteCells_append, Lib.byteCells_encodeRune]; exact Or.inr h1
          · rw [HE.out, ← HC.out, List.append_assoc]
            congr 1
            rw [← hr, ← L_drop s pos, ← key_take, ← key_drop, List.take_append_drop]
        case measure =>
          have := HP.out.1
          have hit3 := k1.iter HIT.out (by omega)
          simp only [World.iterPos, hit3, hit]
          omega
      · have hnx : ∀ ty, (Instr.next (.pointer (some ⟨B + 1, 0, none⟩)) true ty).run Try.prog wr = _ := fun ty => Lib.run_next_end_at wr (B + 1) s pos ty hit hp
        have HBW := Lib.hid hbw
        have HI := Lib.hid hI
        clear hbw hI
        go_wp2_with (go_at_call 25; refine (builderString_any B B acc _ HI.out (by omega)).mono ?_; rintro e w2 ⟨rfl, _, b1, _⟩)
        go_ret2
        refine ⟨?_, HB1.out.trans ((HBW.out.trans b1).mono (by omega))⟩
        have hc := HC.out
        rw [L_end hp, show key [] = [] from rfl, List.append_nil] at hc
        rw [← hc]
        rfl
  · rw [show keyOf s.data.toList = [] from if_neg hm, show errOf s.data.toList = 5 from if_neg hm]
    have hm2 := Bool.eq_false_iff.2 hm
    clear hm
    go_enter Try.func13, Try.ntmps13
    go_wp2_with (go_at_call 15; refine (may_any s w hs).mono ?_; rintro e w1 ⟨rfl, hb1⟩; rw [hm2])
    go_ret2
    exact ⟨rfl, hb1⟩
end Go.Proofs.Ytodalljccjcejaa
