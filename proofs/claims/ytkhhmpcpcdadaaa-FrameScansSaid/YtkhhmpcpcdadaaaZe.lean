import Derived.Test.YtkhhmpcpcdadaaaCom
namespace Go.Proofs.Ytkhhmpcpcdadaaa
open Go.RowKit
set_option linter.unusedVariables false

theorem zeroCells_list (m : Nat) : (Builtin.zeroCells (Value.int .u8 0).cells m).toList = vB (List.replicate m 0) := by
  show ((Array.range (m * 1)).map fun i => (#[Value.int .u8 0] : Array Value)[i % 1]!).toList = _
  rw [Nat.mul_one]
  apply List.ext_getElem?
  intro i
  simp only [Array.toList_map, Array.toList_range, List.getElem?_map, vB, List.getElem?_replicate]
  by_cases h : i < m
  · rw [List.getElem?_range h, if_pos h]
    simp [Nat.mod_one]
  · rw [List.getElem?_eq_none (by simp; omega), if_neg h]; rfl
theorem zeroCells_arr (m : Nat) : Builtin.zeroCells (Value.int .u8 0).cells m = (vB (List.replicate m 0)).toArray := by
  apply Array.ext'
  rw [zeroCells_list]
section
variable (w : World)
theorem run_zeros_room (ty g sLen sCap m : Nat) (cur : Array Value) (hg : w.heap[g]? = some (.cells cur 5 (0, 0))) (hm : m ≤ 281474976710656)
    (hroom : sLen + m ≤ sCap) (hfit : sLen + m ≤ cur.size) :
    (Builtin.append_ #[22, 3] ty #[.slice (some ⟨g, 0, none⟩) sLen sCap, .int .i64 (m : Int)]).run Try.prog w =
      .ok (.slice (some ⟨g, 0, none⟩) (sLen + m) sCap) (w.setRow g (cur.toList.take sLen ++ vB (List.replicate m 0) ++ cur.toList.drop (sLen + m)).toArray) := by
  obtain ⟨i5, hi5, hz0, hz1, hz2⟩ := info_parts3 info5
  have hst := run_storeCells_at Try.prog g sLen 5 (vB (List.replicate m 0)) 0 cur w hg (by simp [vB]; omega) (vB_oneCell _)
  simp only [Nat.add_zero] at hst
  have hw : IntKind.i64.wrap (m : Int) = (m : Int) := IntWalk.i64_in _ ⟨by omega, by omega⟩
  have h0 : ¬ (m : Int) < 0 := by omega
  have h48 : ¬ (281474976710656 : Int) < (m : Int) := by omega
  by_cases hm0 : m = 0
  · subst hm0
    have hw : IntKind.i64.wrap (0 : Int) = 0 := by decide
    have e : (vB (List.replicate 0 0)) = [] := rfl
    rw [e] at hst ⊢
    simp [Builtin.append_, run_underlying Try.underlying22, run_underlying Try.underlying3, sizeOf, typeInfo, hi5, hz2, Addr.add_lit, hw, asInt, asIntOf, show sLen ≤ sCap by omega, storeCells]
    exact (setRow_self w g cur 5 (0, 0) hg).symm
  · simp [Builtin.append_, run_underlying Try.underlying22, run_underlying Try.underlying3, sizeOf, typeInfo, zeroValue, hi5, hz0, hz1, hz2, Addr.add_lit, hw, h0, h48, asInt, asIntOf, hm0, hroom, zeroCells_arr, hst]
    rw [vB_length, List.length_replicate]
theorem run_zeros_nil (ty m : Nat) (hm : 0 < m) (hmm : m ≤ 140737488355328) :
    (Builtin.append_ #[22, 3] ty #[.slice none 0 0, .int .i64 (m : Int)]).run Try.prog w =
      .ok (.slice (some ⟨w.heap.size, 0, none⟩) m (grownCap w m 0 5)) (w.drew.alloc (.cells (vB (List.replicate m 0) ++ vB (List.replicate (grownCap w m 0 5 - m) 0)).toArray 5)) := by
  obtain ⟨i5, hi5, hz0, hz1, hz2⟩ := info_parts3 info5
  have hw : IntKind.i64.wrap (m : Int) = (m : Int) := IntWalk.i64_in _ ⟨by omega, by omega⟩
  have h0 : ¬ (m : Int) < 0 := by omega
  have h48 : ¬ (281474976710656 : Int) < (m : Int) := by omega
  have h63 : ¬ (9223372036854775807 < (m : Int)) := by omega
  have h48' : ¬ (281474976710656 < Builtin.nextslicecap m 0 * 1) := by rw [nextslicecap_zero hm]; omega
  have hn : m ≠ 0 := by omega
  rw [Nat.mul_one] at h48'
  simp [Builtin.append_, run_underlying Try.underlying22, run_underlying Try.underlying3, sizeOf, typeInfo, zeroValue, hi5, hz0, hz1, hz2, hw, h0, h48, h63, h48', asInt, asIntOf, hn, zeroCells_arr, Question.forced, run_firstCells_none, newRow, grownCap]
theorem run_zeros_grow (ty g sLen sCap m : Nat) (l : List UInt8) (hl : l.length = sLen) (holds : ∀ j v, (vB l)[j]? = some v → w.cell? ((⟨g, 0, none⟩ : Addr).add j) = some v)
    (hgr : sCap < sLen + m) (hsc : sLen ≤ sCap) (hmm : sLen + m ≤ 140737488355328) :
    (Builtin.append_ #[22, 3] ty #[.slice (some ⟨g, 0, none⟩) sLen sCap, .int .i64 (m : Int)]).run Try.prog w =
      .ok (.slice (some ⟨w.heap.size, 0, none⟩) (sLen + m) (grownCap w (sLen + m) sCap 5)) (w.drew.alloc (.cells (vB l ++ vB (List.replicate m 0) ++ vB (List.replicate (grownCap w (sLen + m) sCap 5 - (sLen + m)) 0)).toArray 5)) := by
  obtain ⟨i5, hi5, hz0, hz1, hz2⟩ := info_parts3 info5
  have hw : IntKind.i64.wrap (m : Int) = (m : Int) := IntWalk.i64_in _ ⟨by omega, by omega⟩
  have h0 : ¬ (m : Int) < 0 := by omega
  have h48 : ¬ (281474976710656 : Int) < (m : Int) := by omega
  have h63 : ¬ (9223372036854775807 < (sLen : Int) + (m : Int)) := by omega
  have hf : Builtin.nextslicecap (sLen + m) sCap * 1 ≤ 281474976710656 := growslice_fits (by omega) (by omega)
  have h48' : ¬ (281474976710656 < Builtin.nextslicecap (sLen + m) sCap) := by omega
  have hn : m ≠ 0 := by omega
  have hroom : ¬ sLen + m ≤ sCap := by omega
  have hfo := run_firstCells_some (P := Try.prog) w.drew 1 sLen ⟨g, 0, none⟩ sLen sCap (vB l) (by rw [vB_length]; omega) (by simpa using holds)
  simp [Builtin.append_, run_underlying Try.underlying22, run_underlying Try.underlying3, sizeOf, typeInfo, zeroValue, hi5, hz0, hz1, hz2, hw, h0, h48, h63, h48', asInt, asIntOf, hn, hroom, zeroCells_arr, Question.forced, newRow, grownCap, hfo]
end
/-- zeros are appended -/
theorem wp_appZ {ops : Array Oper} {rest : List Oper} {o : Oper} {a : Act} {Q : Exit → Act → World → Prop} {w : World} (hgd : o.guard = none) (s x : Operand)
    (ho : o.op = .call { callee := .builtin .append, args := #[s, x], argTypes := #[22, 3] })
    (base : Nat) (v : Value) (l : List UInt8) (hs : a.eval s = v) (hown : OwnB w base v l) (m : Nat) (hx : a.eval x = .int .i64 (m : Int))
    (hlen : l.length + m ≤ 140737488355328) (hbase : base ≤ w.heap.size)
    (h : ∀ v' w', OwnB w' base v' (l ++ List.replicate m 0) → Below base w w' → wpList Try.prog ops Q rest (a.put o.dst v') w') : wpList Try.prog ops Q (o :: rest) a w := by
  have key : ∃ v' w', (Builtin.append_ #[22, 3] o.type #[v, .int .i64 (m : Int)]).run Try.prog w = .ok v' w' ∧ OwnB w' base v' (l ++ List.replicate m 0) ∧ Below base w w' := by
    have own_new : ∀ (n cap : Nat) (xs : List UInt8) (ys : List Value), xs.length = n → n ≤ cap → cap ≤ maxLen → ys.length = cap - n → OwnB (w.drew.alloc (.cells (vB xs ++ ys).toArray 5)) base (.slice (some ⟨w.heap.size, 0, none⟩) n cap) xs := by
      intro n cap xs ys h1 h2 h3 h4
      unfold OwnB
      rw [h1]
      refine ⟨by rw [vB_length]; omega, .inr ⟨w.heap.size, cap, _, rfl, hbase, heap_alloc_new w.drew _, h2, h3, by simp [vB_length]; omega, ?_⟩⟩
      simp only [Nat.mul_one]
      rw [← h1, ← vB_length]
      simp
    rcases hown.2 with ⟨rfl, hl0⟩ | ⟨g, cap, cur, rfl, hbg, hg, hnc, hcm, hcs, htake⟩
    · have hl : l = [] := List.eq_nil_of_length_eq_zero hl0
      subst hl
      rcases Nat.eq_zero_or_pos m with rfl | hm
      · refine ⟨.slice none 0 0, w, ?_, by simpa using hown, Below.refl _ _⟩
        obtain ⟨i5, hi5, hz0, hz1, hz2⟩ := info_parts3 info5
        have hw : IntKind.i64.wrap (0 : Int) = 0 := by decide
        simp [Builtin.append_, run_underlying Try.underlying22, run_underlying Try.underlying3, sizeOf, typeInfo, hi5, hz2, hw, asInt, asIntOf]
      · have hge := grownCap_ge w m 0 5
        have hcm := grownCap_le_maxLen w m 0 5 (by simp only [maxLen]; simp at hlen; omega)
        refine ⟨_, _, run_zeros_nil w o.type m hm (by simp at hlen; omega), ?_, ((Below.refl base w).drew.alloc hbase _)⟩
        rw [List.nil_append]
        exact own_new _ _ _ _ (by simp) hge hcm (by simp [vB_length])
    · rw [Nat.mul_one] at hcs htake
      by_cases hroom : l.length + m ≤ cap
      · refine ⟨_, _, run_zeros_room w o.type g l.length cap m cur hg (by omega) hroom (by omega), ?_, (Below.refl base w).trans ⟨rfl, rfl, rfl, by simp [World.setRow], fun k hk => setRow_other w g k _ (by omega)⟩⟩
        unfold OwnB
        rw [List.length_append, List.length_replicate]
        refine ⟨by simp [vB_length], .inr ⟨g, cap, _, rfl, hbg, setRow_heap w g cur _ 5 _ hg, hroom, hcm, ?_, ?_⟩⟩
        · simp only [List.size_toArray, List.length_append, List.length_take, List.length_drop, Array.length_toList, vB_length, List.length_replicate]
          omega
        · rw [htake, vB_append]
          have e : l.length + m = (vB l ++ vB (List.replicate m 0)).length := by simp [vB_length]
          simp only [Nat.mul_one]
          rw [e]
          exact List.take_left
      · have hge := grownCap_ge w (l.length + m) cap 5
        have hcm2 := grownCap_le_maxLen w (l.length + m) cap 5 (by simp only [maxLen]; omega)
        refine ⟨_, _, run_zeros_grow w o.type g l.length cap m l rfl (hown.cells (g := g) rfl) (by omega) hnc hlen, ?_, ((Below.refl base w).drew.alloc hbase _)⟩
        rw [← vB_append]
        exact own_new _ _ _ _ (by simp) hge hcm2 (by simp [vB_length])
  obtain ⟨v', w', hr, h1, h2⟩ := key
  refine wpList_plain hgd fun K hK => ?_
  unfold Oper.wp execOp
  simp only [ho, resolve, invoke, builtin, Sem.run_bind, Sem.run_pure, Result.andThen_ok, List.map_toArray, List.map_cons, List.map_nil, hs, hx, hr]
  exact hK _ _ (h v' w' h1 h2)
end Go.Proofs.Ytkhhmpcpcdadaaa
