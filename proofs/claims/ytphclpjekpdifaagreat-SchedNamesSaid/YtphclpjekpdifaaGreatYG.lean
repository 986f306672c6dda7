import Derived.Test.YtphclpjekpdifaaGreatYC
import Derived.LoopN
import Derived.LoopTactic
import Derived.Shelf.Strings.BuilderK
import Derived.Shelf.Strings.BuilderRune
namespace Go.Proofs.YtphclpjekpdifaaGreat.Nm
open Go.RowKit
set_option linter.unusedVariables false
end Go.Proofs.YtphclpjekpdifaaGreat.Nm
namespace Go.Proofs.YtphclpjekpdifaaGreat.Nm
open Go.RowKit
set_option linter.unusedVariables false
end Go.Proofs.YtphclpjekpdifaaGreat.Nm
namespace Go.Proofs.YtphclpjekpdifaaGreat.Nm
open Go.RowKit
set_option linter.unusedVariables false
def szOf : Value → Nat
  | .string s => s.size
  | _ => 0
theorem alw_right {l : List UInt8} (h : alw (Pl.rune l).1 = true) : (Pl.rune l).2.2 = true := by
  cases hr : (Pl.rune l).2.2
  · rw [Pl.rune_bad hr] at h; cases h
  · rfl
theorem alw_okay (l : List UInt8) (h : (Pl.nums l).all alw = true) : Pl.okay l = true := by
  by_cases hl : l = []
  · subst hl; exact Pl.okay_nil
  · rw [Pl.nums_cons hl, List.all_cons, Bool.and_eq_true] at h
    have hbd := Pl.rune_bd l hl
    rw [Pl.okay_cons hl, alw_right h.1, Bool.true_and]
    exact alw_okay _ h.2
termination_by l.length
decreasing_by
  rw [List.length_drop]
  omega
end Go.Proofs.YtphclpjekpdifaaGreat.Nm
namespace Go.Proofs.YtphclpjekpdifaaGreat.Nm
open Go.RowKit Go.Shelf
set_option linter.unusedVariables false
set_option maxRecDepth 20000 in
theorem lower_any (c : Nat) (w : World) (hc : c ≤ 1114111) : Calls Tryz.prog 160 #[.int .i32 c] w fun e w' => e = .returned (.int .i32 (lowN c : Nat)) ∧ w = w' := by
  have HI := Lib.hid (lowN_is c)
  generalize lowN c = A at *
  go_enter Tryz.func160, Tryz.ntmps160
  go_wp2_with fail
  all_goals
    go_ret
    refine ⟨ret_i ?_, rfl⟩
    have := HI.out
    omega
def ren169 : Go.Shelf.Ren := ⟨fun | 169 => 161 | n => n, fun | 70 => 236 | 9 => 9 | 0 => 0 | 72 => 238 | 37 => 114 | 127 => 283 | 3 => 3 | 5 => 5 | n => n, fun | n => n⟩
theorem lays169 : Go.Proofs.Lays.n169 Tryz.prog ren169 := {
  mixed := by kernel_rfl
  f169 := Tryz.func161.trans (congrArg some (by kernel_rfl))
  t0 := Tryz.underlying0
  a0 := Tryz.isAgg0
  z0 := Tryz.sizeOf0
  v0 := Tryz.zeroValue0
  t3 := Tryz.underlying3
  a3 := Tryz.isAgg3
  z3 := Tryz.sizeOf3
  v3 := Tryz.zeroValue3
  t9 := Tryz.underlying9
  a9 := Tryz.isAgg9
  z9 := Tryz.sizeOf9
  v9 := Tryz.zeroValue9
  t37 := Tryz.underlying114
  a37 := Tryz.isAgg114
  z37 := Tryz.sizeOf114
  v37 := Tryz.zeroValue114
  t70 := Tryz.underlying236
  a70 := Tryz.isAgg236
  z70 := Tryz.sizeOf236
  v70 := Tryz.zeroValue236
  t72 := Tryz.underlying238
  a72 := Tryz.isAgg238
  z72 := Tryz.sizeOf238
  v72 := Tryz.zeroValue238
  t127 := Tryz.underlying283
  a127 := Tryz.isAgg283
  z127 := Tryz.sizeOf283
  v127 := Tryz.zeroValue283 }
theorem extra169 : Builder.Extra Tryz.prog ren169 := {
  sizeBuilder := by kernel_rfl
  liesBuilder := by kernel_rfl
  t5 := Tryz.underlying5
  a5 := Tryz.isAgg5
  z5 := Tryz.sizeOf5
  v5 := Tryz.zeroValue5
  infoByte := by kernel_rfl
  cellsByte := by kernel_rfl
  sizeByte := by kernel_rfl
  neB5 := by decide }
theorem builderString_any (B b : Nat) (l : List UInt8) (w : World) (h : Lib.IsBuilderF 238 5 B b (Lib.byteCells l) w) (hBw : B ≤ w.heap.size) :
    Calls Tryz.prog 161 #[.pointer (some ⟨b, 0, none⟩)] w fun e w' => e = .returned (.string ⟨l.toArray⟩) ∧ (Lib.IsBuilderF 238 5 B b (Lib.byteCells l) w' ∧ Below B w w' ∧ Lib.OthersKept 5 (some b) w w') := Any.Builder_String_any_k lays169 extra169 B b l w h hBw
def ren242 : Go.Shelf.Ren := ⟨fun | 242 => 197 | 278 => 212 | n => n, fun | 37 => 114 | 21 => 21 | 51 => 252 | 4 => 4 | 5 => 5 | 46 => 204 | 70 => 236 | 72 => 238 | n => n, fun | n => n⟩
theorem lays242 : Go.Proofs.Lays.n242 Tryz.prog ren242 := {
  mixed := by kernel_rfl
  f242 := Tryz.func197.trans (congrArg some (by kernel_rfl))
  f278 := Tryz.func212.trans (congrArg some (by kernel_rfl))
  t4 := Tryz.underlying4
  a4 := Tryz.isAgg4
  z4 := Tryz.sizeOf4
  v4 := Tryz.zeroValue4
  t5 := Tryz.underlying5
  a5 := Tryz.isAgg5
  z5 := Tryz.sizeOf5
  v5 := Tryz.zeroValue5
  t21 := Tryz.underlying21
  a21 := Tryz.isAgg21
  z21 := Tryz.sizeOf21
  v21 := Tryz.zeroValue21
  t37 := Tryz.underlying114
  a37 := Tryz.isAgg114
  z37 := Tryz.sizeOf114
  v37 := Tryz.zeroValue114
  t46 := Tryz.underlying204
  a46 := Tryz.isAgg204
  z46 := Tryz.sizeOf204
  v46 := Tryz.zeroValue204
  t51 := Tryz.underlying252
  a51 := Tryz.isAgg252
  z51 := Tryz.sizeOf252
  v51 := Tryz.zeroValue252 }
theorem extra242 : Builder.Extra Tryz.prog ren242 := {
  sizeBuilder := by kernel_rfl
  liesBuilder := by kernel_rfl
  t5 := Tryz.underlying5
  a5 := Tryz.isAgg5
  z5 := Tryz.sizeOf5
  v5 := Tryz.zeroValue5
  infoByte := by kernel_rfl
  cellsByte := by kernel_rfl
  sizeByte := by kernel_rfl
  neB5 := by decide }
theorem appendRune_any (B : Nat) (v : Value) (n : Nat) (xs : List Value) (r : Int) (hr0 : -2147483648 ≤ r) (hr1 : r ≤ 2147483647) (w : World) (hown : w.ownsRowF B 5 1 v n xs) (hlen : n + 4 ≤ 140737488355328) (hBw : B ≤ w.heap.size) :
    Calls Tryz.prog 197 #[v, .int .i32 r] w fun e w' => ∃ v', e = .returned v' ∧ w'.ownsRowF B 5 1 v' (n + (Lib.runeCells r).length) (xs ++ Lib.runeCells r) ∧ ∃ o, (w.alloc o).grownBy w' v.ownBlock := Any.utf8_AppendRune_own lays242 extra242 B v n xs r hr0 hr1 w hown hlen hBw
theorem info42 : (Tryz.prog.info? 238).map (·.size) = some 2 := by kernel_rfl
theorem lies42 : liesAt Tryz.prog Tryz.prog.depth 238 (2 / Tryz.prog.cellsOf 238) 0 238 1 = true := by kernel_rfl
set_option maxHeartbeats 1000000 in
set_option maxRecDepth 100000 in
theorem check_used (b : Nat) (w : World) (h0 : w.cell? ⟨b, 0, none⟩ = some (.pointer (some ⟨b, 0, none⟩))) :
    Calls Tryz.prog 196 #[.pointer (some ⟨b, 0, none⟩)] w fun e w' => e = .returned (.tuple #[]) ∧ w' = w := by
  obtain ⟨j, hj, _⟩ := Option.map_eq_some_iff.1 info42
  go_enter Tryz.func196, Tryz.ntmps196
  go_wp2_with fail
  rw [Lib.run_neq_ptr_same w _ Tryz.underlying236 hj]
  go_wp2_with fail
  go_end0
  exact ⟨rfl, rfl⟩
set_option maxHeartbeats 1000000 in
set_option maxRecDepth 100000 in
theorem check_fresh (b : Nat) (w : World) (h0 : w.cell? ⟨b, 0, none⟩ = some (.pointer none)) (hsh : w.shape? b = some (238, 2)) (hfz : w.frozen? ⟨b, 0, none⟩ = false) :
    Calls Tryz.prog 196 #[.pointer (some ⟨b, 0, none⟩)] w fun e w' => e = .returned (.tuple #[]) ∧ w' = w.setCell ⟨b, 0, none⟩ (.pointer (some ⟨b, 0, none⟩)) := by
  obtain ⟨j, hj, hjs⟩ := Option.map_eq_some_iff.1 info42
  go_enter Tryz.func196, Tryz.ntmps196
  go_wp2_with fail
  rw [Lib.run_to_unsafe w ⟨b, 0, none⟩ Tryz.underlying236 Tryz.underlying295 hj (by rw [hjs]; decide) hsh (Nat.zero_lt_succ 1)]
  simp only [Result.andThen]
  rw [Oper.upon_value]
  go_wp2_with fail
  rw [run_callFunc_extern Tryz.func211 (by kernel_rfl) (by kernel_rfl) (by kernel_rfl) (e := Extern.AbiNoEscape.same) (by kernel_rfl)]
  rw [Lib.run_noEscape]
  simp only [Result.andThen]
  rw [Oper.upon_value]
  go_wp2_with fail
  rw [Lib.run_from_unsafe w ⟨b, 0, none⟩ Tryz.underlying295 Tryz.underlying236 hj hsh lies42]
  simp only [Result.andThen]
  rw [Oper.upon_value]
  go_wp2_with fail
  go_end0
  exact ⟨rfl, rfl⟩
theorem check_any (B b : Nat) (bs : List Value) (w : World) (h : Lib.IsBuilderF 238 5 B b bs w) :
    Calls Tryz.prog 196 #[.pointer (some ⟨b, 0, none⟩)] w fun e w' => e = .returned (.tuple #[]) ∧ (Lib.BuilderAtF 238 5 B b (.pointer (some ⟨b, 0, none⟩)) bs w' ∧ Below B w w' ∧ Lib.OthersKept 5 (some b) w w') := by
  rcases h with h | h
  · refine (check_fresh b w h.cell0 h.shape h.frozen0).mono ?_
    rintro e w' ⟨rfl, rfl⟩
    exact ⟨rfl, h.used _, (Below.refl B w).setCell (p := ⟨b, 0, none⟩) h.1 _, (Lib.OthersKept.refl _ _ w).setCell ⟨b, 0, none⟩ rfl _⟩
  · refine (check_used b w h.cell0).mono ?_
    rintro e w' ⟨rfl, rfl⟩
    exact ⟨rfl, h, Below.refl B _, Lib.OthersKept.refl _ _ _⟩
set_option maxHeartbeats 4000000 in
set_option maxRecDepth 100000 in
theorem writeRune_any (B b : Nat) (bs : List Value) (r : Int) (hr0 : -2147483648 ≤ r) (hr1 : r ≤ 2147483647) (w : World) (h : Lib.IsBuilderF 238 5 B b bs w) (hlen : bs.length + 4 ≤ 140737488355328) (hBw : B ≤ w.heap.size) :
    Calls Tryz.prog 159 #[.pointer (some ⟨b, 0, none⟩), .int .i32 r] w fun e w' => e = .returned (.tuple #[.int .i64 (Lib.runeCells r).length, .nilIface]) ∧ (Lib.BuilderAtF 238 5 B b (.pointer (some ⟨b, 0, none⟩)) (bs ++ Lib.runeCells r) w' ∧ Below B w w' ∧ Lib.OthersKept 5 (some b) w w') := by
  have hk4 := Lib.runeCells_le r
  go_enter Tryz.func159, Tryz.ntmps159
  go_wp2_with (go_at_call 196; refine (check_any B b bs _ h).mono ?_)
  rintro e w1 ⟨rfl, h1, hb1, hk1⟩
  obtain ⟨hB, v, hbk, hown, hne⟩ := h1
  obtain ⟨ao, cap, rfl⟩ : ∃ ao cap, v = .slice ao bs.length cap := by
    rcases hown.2 with ⟨hv, h0⟩ | ⟨g, cap, cur, fz, hv, _⟩
    · exact ⟨none, 0, by rw [hv, h0]⟩
    · exact ⟨_, _, hv⟩
  have c0 : w1.cell? ⟨b, 0, none⟩ = some (.pointer (some ⟨b, 0, none⟩)) := by rw [Lib.cell_of_heap hbk]; rfl
  have c1 : w1.cell? ⟨b, 1, none⟩ = some (.slice ao bs.length cap) := by rw [Lib.cell_of_heap hbk]; rfl
  go_wp2_with (go_at_call 197; refine (appendRune_any B _ bs.length bs r hr0 hr1 _ hown hlen (by have := hb1.size; omega)).mono ?_)
  rintro e w2 ⟨v', rfl, hown', o, hgrow⟩
  have hlt : b < w1.heap.size := (Array.getElem?_eq_some_iff.1 hbk).1
  have hb2 : w2.heap[b]? = some (.cells #[.pointer (some ⟨b, 0, none⟩), .slice ao bs.length cap] 238 (0, 0)) := by
    rw [hgrow.block b (by simp; omega) (fun e => hne e.symm), Lib.alloc_old w1 _ b hlt]
    exact hbk
  have d0 : w2.cell? ⟨b, 0, none⟩ = some (.pointer (some ⟨b, 0, none⟩)) := by rw [Lib.cell_of_heap hb2]; rfl
  have d1 : w2.cell? ⟨b, 1, none⟩ = some (.slice ao bs.length cap) := by rw [Lib.cell_of_heap hb2]; rfl
  have f1 : w2.frozen? ⟨b, 1, none⟩ = false := Lib.frozen_of_heap hb2 1
  obtain ⟨g, cap', rfl⟩ : ∃ g cap', v' = .slice (some ⟨g, 0, none⟩) (bs.length + (Lib.runeCells r).length) cap' := by
    rcases hown'.2 with ⟨_, h0⟩ | ⟨g, cap', cur, fz, hv, _⟩
    · omega
    · exact ⟨g, cap', hv⟩
  go_wp2_with fail
  go_ret2
  refine ⟨?_, ?_, ?_, ((hk1.alloc _).grown hgrow (Lib.ownsRowF_kind (hown.alloc _))).setCell ⟨b, 1, none⟩ rfl _⟩
  · have e : ((bs.length : Int) + ((Lib.runeCells r).length : Int) - (bs.length : Int)) = ((Lib.runeCells r).length : Int) := by omega
    simp [e]
  · exact Lib.BuilderAtF.put (T := 238) (e := 5) hB hb2 (bs' := bs ++ Lib.runeCells r) (by simpa using hown') (by decide)
  · exact ((hb1.alloc (by have := hb1.size; omega) _).grown hgrow (by have := hb1.size; simp; omega) (fun k hk => (hown.lt k hk).1)).setCell (p := ⟨b, 1, none⟩) hB _
end Go.Proofs.YtphclpjekpdifaaGreat.Nm
namespace Go.Proofs.YtphclpjekpdifaaGreat.Nm
open Go.RowKit
set_option linter.unusedVariables false
def lowB (b : UInt8) : UInt8 := if 65 ≤ b.toNat ∧ b.toNat ≤ 90 then b + 32 else b
theorem lowB_nat (b : UInt8) : (lowB b).toNat = lowN b.toNat := by
  unfold lowB lowN
  split
  · rw [UInt8.toNat_add, show (32 : UInt8).toNat = 32 from rfl]; omega
  · rfl
def key (l : List UInt8) : List UInt8 := l.map lowB
theorem key_len (l : List UInt8) : (key l).length = l.length := by simp [key]
theorem lowN_ge {c : Nat} (h : 91 ≤ c) : lowN c = c := by unfold lowN; rw [if_neg (by omega)]
theorem g_key (l : List UInt8) (k : Nat) : Pl.g (key l) k = lowN (Pl.g l k) := by
  unfold Pl.g key
  rw [List.getElem?_map]
  cases l[k]? with
  | none => rfl
  | some b => simp only [Option.map_some, Option.getD_some]; exact lowB_nat b
theorem ct_key (l : List UInt8) (k : Nat) : Pl.ct (key l) k = Pl.ct l k := by
  unfold Pl.ct
  rw [g_key, key_len]
  have := lowN_is (Pl.g l k)
  congr 1
  rw [Bool.eq_iff_iff]
  simp only [Bool.and_eq_true, decide_eq_true_eq]
  omega
theorem rune_key (l : List UInt8) : Pl.rune (key l) = (lowN (Pl.rune l).1, (Pl.rune l).2.1, (Pl.rune l).2.2) := by
  have hb : Pl.bad = (lowN Pl.bad.1, Pl.bad.2.1, Pl.bad.2.2) := by decide
  have k0 := g_key l 0
  have n1 := @Pl.ct_g l 1
  have n2 := @Pl.ct_g l 2
  have n3 := @Pl.ct_g l 3
  have e1 : Pl.ct l 1 = true → Pl.g (key l) 1 = Pl.g l 1 := fun h => by rw [g_key]; exact lowN_ge (by have := n1 h; omega)
  have e2 : Pl.ct l 2 = true → Pl.g (key l) 2 = Pl.g l 2 := fun h => by rw [g_key]; exact lowN_ge (by have := n2 h; omega)
  have e3 : Pl.ct l 3 = true → Pl.g (key l) 3 = Pl.g l 3 := fun h => by rw [g_key]; exact lowN_ge (by have := n3 h; omega)
  have hi := lowN_is (Pl.g l 0)
  unfold Pl.rune
  rw [ct_key, ct_key, ct_key]
  by_cases h0 : Pl.g l 0 < 128
  · rw [if_pos h0, k0, if_pos (by omega)]
  rw [if_neg h0]
  have e0 : Pl.g (key l) 0 = Pl.g l 0 := by rw [k0]; exact lowN_ge (by omega)
  rw [e0, if_neg h0]
  by_cases h1 : 194 ≤ Pl.g l 0 ∧ Pl.g l 0 ≤ 223
  · rw [if_pos h1, if_pos h1]
    by_cases c : Pl.ct l 1 = true
    · rw [if_pos c, if_pos c, e1 c]
      have := n1 c
      rw [lowN_ge (by dsimp only; omega)]
    · rw [if_neg c, if_neg c]; exact hb
  rw [if_neg h1, if_neg h1]
  by_cases h2 : 224 ≤ Pl.g l 0 ∧ Pl.g l 0 ≤ 239
  · rw [if_pos h2, if_pos h2]
    by_cases c : Pl.ct l 1 = true ∧ Pl.ct l 2 = true
    · rw [if_pos c, if_pos c, e1 c.1, e2 c.2]
      split
      · exact hb
      · rw [lowN_ge (by dsimp only; omega)]
    · rw [if_neg c, if_neg c]; exact hb
  rw [if_neg h2, if_neg h2]
  by_cases h3 : 240 ≤ Pl.g l 0 ∧ Pl.g l 0 ≤ 244
  · rw [if_pos h3, if_pos h3]
    by_cases c : Pl.ct l 1 = true ∧ Pl.ct l 2 = true ∧ Pl.ct l 3 = true
    · rw [if_pos c, if_pos c, e1 c.1, e2 c.2.1, e3 c.2.2]
      split
      · exact hb
      · rw [lowN_ge (by dsimp only; omega)]
    · rw [if_neg c, if_neg c]; exact hb
  · rw [if_neg h3, if_neg h3]; exact hb
theorem key_drop (l : List UInt8) (k : Nat) : (key l).drop k = key (l.drop k) := by simp [key]
theorem key_take (l : List UInt8) (k : Nat) : (key l).take k = key (l.take k) := by simp [key]
theorem key_ne {l : List UInt8} (h : l ≠ []) : key l ≠ [] := by simp [key, h]
theorem runes_key (l : List UInt8) : Pl.runes (key l) = (Pl.runes l).map fun r => (lowN r.1, r.2.1, r.2.2) := by
  by_cases h : l = []
  · subst h; rw [show key [] = [] from rfl, Pl.runes_nil]; rfl
  · have hbd := Pl.rune_bd l h
    rw [Pl.runes_cons (key_ne h), Pl.runes_cons h, rune_key, List.map_cons]
    dsimp only
    rw [key_drop, runes_key (l.drop (Pl.rune l).2.1)]
termination_by l.length
decreasing_by
  rw [List.length_drop]
  omega
theorem okay_key (l : List UInt8) : Pl.okay (key l) = Pl.okay l := by
  unfold Pl.okay; rw [runes_key, List.all_map]; rfl
theorem enc_key {l : List UInt8} (hl : l ≠ []) (h : (Pl.rune l).2.2 = true) : Lib.encodeRune ((lowN (Pl.rune l).1 : Nat) : Int) = key (l.take (Pl.rune l).2.1) := by
  have e := rune_key l
  have := Pl.enc (key_ne hl) (by rw [e]; exact h)
  rw [e] at this
  dsimp only at this
  rw [this, key_take]
theorem may_okay {l : List UInt8} (h : may l = true) : Pl.okay l = true := alw_okay l ((may_iff l).1 h).2.2.1
theorem wd_le (l : List UInt8) : l.length ≤ 4 * (Pl.runes l).length := by
  by_cases h : l = []
  · subst h; simp
  · have hbd := Pl.rune_bd l h
    have ih := wd_le (l.drop (Pl.rune l).2.1)
    rw [Pl.runes_cons h, List.length_cons]
    rw [List.length_drop] at ih
    omega
termination_by l.length
decreasing_by
  rw [List.length_drop]
  omega
def keyOf (l : List UInt8) : List UInt8 := if may l = true then key l else []
def errOf (l : List UInt8) : Int := if may l = true then 0 else 5
set_option maxHeartbeats 4000000 in
set_option maxRecDepth 100000 in
theorem key_any (s : ByteArray) (w : World) (hs : s.size ≤ 281474976710656) :
    Calls Tryz.prog 125 #[.string s] w fun e w' => e = .returned (.tuple #[.string (str (keyOf s.data.toList)), .int .i64 (errOf s.data.toList)]) ∧ Below w.heap.size w w' := by
  by_cases hm : may s.data.toList = true
  · rw [show keyOf s.data.toList = key s.data.toList from if_pos hm, show errOf s.data.toList = 0 from if_pos hm, ← L_zero]
    have hmm := hm
    rw [← L_zero] at hmm
    have HO := Lib.hid ((may_iff _).1 hmm)
    have hsz : s.size ≤ 96 := by
      have h1 := wd_le (L s 0)
      rw [L_len] at h1
      have := HO.out.2.1
      omega
    have HA := Lib.hid HO.out.2.2.1
    go_enter Tryz.func125, Tryz.ntmps125
    go_wp2_with (go_at_call 77; refine (may_any s w hs).mono ?_; rintro e w1 ⟨rfl, hb1⟩; rw [hm])
    have hsz1 := hb1.size
    have HB1 := Lib.hid hb1
    clear hb1
    generalize hB : w1.heap.size = B at *
    go_loopw [] (fun wr => ∃ (pos : Nat) (acc : List UInt8), Lib.IsBuilderF 238 5 B B (Lib.byteCells acc) wr ∧ wr.heap[B + 1]? = some (.stringIter s pos) ∧ Below B w1 wr ∧ acc ++ key (L s pos) = key (L s 0) ∧ (Pl.nums (L s pos)).all alw = true ∧ pos ≤ s.size) (fun wr => s.size - wr.iterPos (B + 1))
    case atStart =>
      refine ⟨0, [], ?_, ?_, ((Below.refl _ w1).alloc (by omega) _).alloc (by simp; omega) _, by simp, HA.out, by omega⟩
      · rw [← hB]
        exact (Lib.IsBuilderF.of (Lib.fresh_isBuilder 238 5 w1)).alloc _
      · have := World.iter_heap (w1.alloc (.cells #[.pointer none, .slice none 0 0] 238)) s 0
        rw [World.size_alloc, hB] at this
        exact this
    case round =>
      obtain ⟨pos, acc, hI, hit, hbw, hacc, hall, hpa⟩ := hrel
      have hszr : B + 1 < wr.heap.size := (Array.getElem?_eq_some_iff.1 hit).1
      have HC := Lib.hid hacc
      have hal : acc.length ≤ 96 := by
        have := congrArg List.length hacc
        rw [List.length_append, key_len, key_len, L_len, L_len] at this
        omega
      clear hacc
      by_cases hp : pos < s.size
      · have hnx : ∀ ty, (Instr.next (.pointer (some ⟨B + 1, 0, none⟩)) true ty).run Tryz.prog wr = _ := fun ty => Lib.run_next_any_at wr (B + 1) s pos ty hit hp
        rw [dec hp] at hnx
        have hbd := Pl.rune_bd (L s pos) (L_ne hp)
        have hll := L_len s pos
        rw [nums_step hp, List.all_cons, Bool.and_eq_true] at hall
        have HE := Lib.hid (enc_key (L_ne hp) (alw_right hall.1))
        have HA2 := Lib.hid hall.2
        have hI2 := hI.iterAt hit (pos + (Pl.rune (L s pos)).2.1)
        have hit2 := Lib.iterAt_heap wr (B + 1) s pos (pos + (Pl.rune (L s pos)).2.1) hit
        have hbw2 := Lib.below_iterAt hbw (k := B + 1) (by omega) s (pos + (Pl.rune (L s pos)).2.1)
        have hsz2 : B + 1 < (wr.iterAt (B + 1) s (pos + (Pl.rune (L s pos)).2.1)).heap.size := by rw [Lib.iterAt_size]; exact hszr
        have HI := Lib.hid hI2
        have HIT := Lib.hid hit2
        have HBW := Lib.hid hbw2
        have HP := Lib.hid (show 1 ≤ (Pl.rune (L s pos)).2.1 ∧ pos + (Pl.rune (L s pos)).2.1 ≤ s.size by omega)
        have hc := hbd.2.2.2
        have hlc := lowN_is (Pl.rune (L s pos)).1
        clear hI2 hit2 hbw2 hbd hll hall
        generalize hr : Pl.rune (L s pos) = r at *
        go_wp2_with (first | (go_at_call 160; refine (lower_any _ _ hc).mono ?_; rintro e w2 ⟨rfl, rfl⟩) | (go_at_call 159; refine (writeRune_any B B _ _ (by omega) (by omega) _ HI.out (by rw [Lib.byteCells_length]; omega) (by omega)).mono ?_; rintro e w2 ⟨rfl, h1, b1, k1⟩))
        go_roundw
        case rel =>
          have hit3 := k1.iter HIT.out (by omega)
          refine ⟨pos + r.2.1, acc ++ Lib.encodeRune ((lowN r.1 : Nat) : Int), ?_, hit3, HBW.out.trans b1, ?_, HA2.out, HP.out.2⟩
          · rw [Lib.byteCells_append, Lib.byteCells_encodeRune]; exact Or.inr h1
          · rw [HE.out, ← HC.out, List.append_assoc]
            congr 1
            rw [← hr, ← L_drop s pos, ← key_take, ← key_drop, List.take_append_drop]
        case measure =>
          have := HP.out.1
          have hit3 := k1.iter HIT.out (by omega)
          simp only [World.iterPos, hit3, hit]
          omega
      · have hnx : ∀ ty, (Instr.next (.pointer (some ⟨B + 1, 0, none⟩)) true ty).run Tryz.prog wr = _ := fun ty => Lib.run_next_end_at wr (B + 1) s pos ty hit hp
        have HBW := Lib.hid hbw
        have HI := Lib.hid hI
        clear hbw hI
        go_wp2_with (go_at_call 161; refine (builderString_any B B acc _ HI.out (by omega)).mono ?_; rintro e w2 ⟨rfl, _, b1, _⟩)
        go_ret2
        refine ⟨?_, HB1.out.trans ((HBW.out.trans b1).mono (by omega))⟩
        have hc := HC.out
        rw [L_end hp, show key [] = [] from rfl, List.append_nil] at hc
        rw [← hc]
        rfl
  · rw [show keyOf s.data.toList = [] from if_neg hm, show errOf s.data.toList = 5 from if_neg hm]
    have hm2 := Bool.eq_false_iff.2 hm
    clear hm
    go_enter Tryz.func125, Tryz.ntmps125
    go_wp2_with (go_at_call 77; refine (may_any s w hs).mono ?_; rintro e w1 ⟨rfl, hb1⟩; rw [hm2])
    go_ret2
    exact ⟨rfl, hb1⟩
end Go.Proofs.YtphclpjekpdifaaGreat.Nm
