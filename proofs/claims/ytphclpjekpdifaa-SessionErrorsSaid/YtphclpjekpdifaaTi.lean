import Derived.Test.YtphclpjekpdifaaTh
import Derived.Laws.CopyRow
namespace Go.Proofs.Ytphclpjekpdifaa
set_option maxRecDepth 20000
open Go.RowKit
open SP
open Go.Proofs.Ytphclpjekpdifaa.Nm (str)
open Wi (RetBelow)
set_option linter.unusedVariables false
/-! ### sessions that end -/
set_option maxHeartbeats 1000000 in
theorem clos44 (p q b : Nat) (ck idle : Int) (s : Ses) (X : World) (h1 : X.cell? ⟨p, 0, none⟩ = some (.pointer (some ⟨b, 0, none⟩))) (h2 : X.cell? ⟨q, 0, none⟩ = some (.int .i64 idle)) (h3 : X.cell? ⟨b, 0, none⟩ = some (.int .i64 ck)) (hs : 0 ≤ s.u) (hc : s.u ≤ ck) (hM : ck ≤ 4611686018427387904) :
    Calls Try.prog 27 #[sesV s, .pointer (some ⟨p, 0, none⟩), .pointer (some ⟨q, 0, none⟩)] X (RetBelow (.bool (decide (max idle 0 ≤ ck - s.u))) X) := by
  have l1 := lt_of_cell h1
  have l2 := lt_of_cell h2
  have l3 := lt_of_cell h3
  have HB := Lib.hid ((Below.refl X.heap.size X).alloc (Nat.le_refl _) (.cells (sesC s).toArray 52))
  have h8 := cell_of_row (X.alloc (.cells (sesC s).toArray 52)) X.heap.size 8 _ _ _ (heap_alloc_new X (.cells (sesC s).toArray 52))
  unfold sesV sesC at *
  obtain ⟨sid, sq, ⟨re, rs, ra, rb, rc, rn⟩, su⟩ := s
  dsimp only at *
  go_enter Try.func27, Try.ntmps27
  go_wp2_with fail
  go_region
  all_goals go_wp2_with fail
  all_goals go_ret
  all_goals
    refine ⟨?_, HB.out.drew⟩
    show Ending.returned (.bool _) = Ending.returned (.bool _)
    congr 2
    first
      | (have e : max idle 0 = idle := by omega
         rw [e])
      | (have e : max idle 0 = 0 := by omega
         rw [e]
         symm
         simp
         omega)
/-- the cells of a row of one's own -/
theorem own_cells {w : World} {g n cap : Nat} {R : List Ses} (h : Own DS w 0 (.slice (some ⟨g, 0, none⟩) n cap) R) {k : Nat} {s : Ses} (hk : R[k]? = some s) : ∀ q u, (sesC s)[q]? = some u → w.cell? ⟨g, k * 9 + q, none⟩ = some u ∧ w.frozen? ⟨g, k * 9 + q, none⟩ = false := by
  intro q u hu
  have hr := h
  rcases h.2 with ⟨e, hn⟩ | ⟨g', cap', cur, e, hg, hgg, _⟩
  · cases e
  · injection e with e1
    injection e1 with e1
    injection e1 with e1
    subst e1
    have h1 := hr.cells (g := g) rfl (k * 9 + q) u (flat_get DS R k s hk q u hu)
    rw [show ((⟨g, 0, none⟩ : Addr).add (k * 9 + q)) = ⟨g, k * 9 + q, none⟩ from by unfold Addr.add; split <;> simp_all] at h1
    exact ⟨h1, by simp [World.frozen?, hgg]⟩
/-- a tail of a row of one's own is cleared -/
theorem own_clear {w : World} {g n cap : Nat} {R : List Ses} (h : Own DS w 0 (.slice (some ⟨g, 0, none⟩) n cap) R) (hn : R.length = n) {i : Nat} (hi : i < n) :
    ∃ w', (∀ ty, (Builtin.clear_ #[47] ty #[.slice (some ⟨g, i * 9, none⟩) (n - i) (cap - i)]).run Try.prog w = .ok (.tuple #[]) w') ∧ Own DS w' 0 (.slice (some ⟨g, 0, none⟩) i cap) (R.take i) ∧ Fr (· = g) w w' := by
  have hr := h
  rcases h.2 with ⟨e, _⟩ | ⟨g', cap', cur, e, hg, hgg, hnc, hcm, hcs, htk⟩
  · cases e
  · injection e with e1 e2 e3
    injection e1 with e1
    injection e1 with e1
    subst e1 e3
    have hzv : ∀ w : World, (zeroValue 52).run Try.prog w = .ok (.agg #[.int .i64 0, .int .i64 0, .int .i64 0, .string ⟨#[]⟩, .int .i64 0, .int .i64 0, .int .i64 0, .int .i64 0, .int .i64 0]) w := fun w => by kernel_rfl
    obtain ⟨vs, hvs⟩ : ∃ vs, vs = (Builtin.zeroCells (Value.agg #[.int .i64 0, .int .i64 0, .int .i64 0, .string ⟨#[]⟩, .int .i64 0, .int .i64 0, .int .i64 0, .int .i64 0, .int .i64 0]).cells (n - i)).toList := ⟨_, rfl⟩
    have hvl : vs.length = (n - i) * 9 := by
      rw [hvs]
      simp [Builtin.zeroCells, Value.cells]
    have hv1 : ∀ v ∈ vs, v.oneCell' = true := by
      intro v hv
      rw [hvs] at hv
      simp only [Builtin.zeroCells, Value.cells, Array.mem_toList_iff] at hv
      obtain ⟨j, _, rfl⟩ := Array.mem_map.1 hv
      have hj : j % 9 < 9 := Nat.mod_lt _ (by omega)
      show Value.oneCell' ((#[.int .i64 0, .int .i64 0, .int .i64 0, .string ⟨#[]⟩, .int .i64 0, .int .i64 0, .int .i64 0, .int .i64 0, .int .i64 0] : Array Value)[j % 9]!) = true
      generalize j % 9 = r at hj
      rcases (show r = 0 ∨ r = 1 ∨ r = 2 ∨ r = 3 ∨ r = 4 ∨ r = 5 ∨ r = 6 ∨ r = 7 ∨ r = 8 by omega) with rfl | rfl | rfl | rfl | rfl | rfl | rfl | rfl | rfl <;> rfl
    have hsz : i * 9 + 0 + vs.length ≤ cur.size := by
      rw [hvl]
      have : cur.size = cap * 9 := hcs
      have : R.length ≤ cap := hnc
      omega
    have hst := run_storeCells_at (P := Try.prog) g (i * 9) 52 vs 0 cur w hgg hsz hv1
    obtain ⟨m, hm⟩ : ∃ m, n - i = m + 1 := ⟨n - i - 1, by omega⟩
    refine ⟨w.setRow g (cur.toList.take (i * 9 + 0) ++ vs ++ cur.toList.drop (i * 9 + 0 + vs.length)).toArray, fun ty => ?_, ?_, ?_⟩
    · have hg1 : (Builtin.clear_ #[47] ty #[.slice (some ⟨g, i * 9, none⟩) (m + 1) (cap - i)]).run Try.prog w = ((storeCells ⟨g, i * 9, none⟩ (Builtin.zeroCells (Value.agg #[.int .i64 0, .int .i64 0, .int .i64 0, .string ⟨#[]⟩, .int .i64 0, .int .i64 0, .int .i64 0, .int .i64 0, .int .i64 0]).cells (m + 1)).toList).run Try.prog w).andThen fun _ w' => .ok (.tuple #[]) w' := by
        generalize (Value.agg #[.int .i64 0, .int .i64 0, .int .i64 0, .string ⟨#[]⟩, .int .i64 0, .int .i64 0, .int .i64 0, .int .i64 0, .int .i64 0]) = Z at *
        simp [Builtin.clear_, run_underlying Try.underlying47, hzv]
      rw [hm, hg1, ← hm, ← hvs, hst]
      rfl
    · have hcl : cur.toList.length = cap * 9 := by rw [Array.length_toList]; exact hcs
      have hRl : R.length ≤ cap := hnc
      refine ⟨by rw [flat_length], .inr ⟨g, cap, _, by rw [List.length_take]; congr 2; omega, Nat.zero_le _, setRow_heap w g cur _ 52 _ hgg, by rw [List.length_take]; omega, hcm, ?_, ?_⟩⟩
      · simp only [List.size_toArray, List.length_append, List.length_take, List.length_drop]
        rw [hcl, hvl]
        show _ = cap * 9
        omega
      · show List.take ((R.take i).length * 9) _ = _
        have h9 : (R.take i).length = i := by rw [List.length_take]; omega
        have htk' : cur.toList.take (R.length * 9) = flat DS R := htk
        have hfl : flat DS (R.take i) = (flat DS R).take (i * 9) := by
          have e := flat_append DS (R.take i) (R.drop i)
          rw [List.take_append_drop] at e
          rw [e, List.take_left' (by rw [flat_length, h9]; rfl)]
        rw [h9, hfl, ← htk', List.take_take, List.append_assoc, List.take_append_of_le_length (by rw [List.length_take, hcl]; omega), List.take_take]
        congr 1
        omega
    · exact ⟨rfl, rfl, rfl, by simp, fun k hk hne => setRow_other w g k _ hne⟩
/-- the first that is old -/
def IdxP (R : List Ses) (p : Ses → Bool) (n : Nat) (w : World) (e : Ending) (w' : World) : Prop := Below w.heap.size w w' ∧ ((e = .returned (.int .i64 (-1)) ∧ ∀ s ∈ R, p s = false) ∨ ∃ (k : Nat) (s : Ses), e = .returned (.int .i64 k) ∧ k < n ∧ R[k]? = some s ∧ p s = true ∧ ∀ (j : Nat) (u : Ses), j < k → R[j]? = some u → p u = false)
set_option maxHeartbeats 1000000 in
theorem index_any (g n cap P Q : Nat) (R : List Ses) (p : Ses → Bool) (w : World) (h : Own DS w 0 (.slice (some ⟨g, 0, none⟩) n cap) R) (hn : R.length = n) (hsm : n ≤ 1000)
    (HCL : Hid (∀ (s : Ses) (X : World), s ∈ R → Below w.heap.size w X → Calls Try.prog 27 #[sesV s, .pointer (some ⟨P, 0, none⟩), .pointer (some ⟨Q, 0, none⟩)] X (RetBelow (.bool (p s)) X))) :
    Calls Try.prog 47 #[.slice (some ⟨g, 0, none⟩) n cap, .func (.func 27) #[] #[.pointer (some ⟨P, 0, none⟩), .pointer (some ⟨Q, 0, none⟩)]] w (IdxP R p n w) := by
  have H := Lib.hid h
  have HN := Lib.hid hn
  clear h hn
  go_enter Try.func47, Try.ntmps47
  go_wp2_with fail
  go_loopw [8] (fun iV wr => ∃ (j : Nat), iV = .int .i64 (j : Int) ∧ j ≤ n ∧ Below w.heap.size w wr ∧ ∀ (i : Nat) (u : Ses), i < j → R[i]? = some u → p u = false) (fun iV _ => n - (intOf iV).toNat)
  case atStart => exact ⟨0, rfl, Nat.zero_le _, Below.refl _ _, fun i u h => absurd h (Nat.not_lt_zero _)⟩
  case round =>
    obtain ⟨j, rfl, hj, hb, ha⟩ := hrel
    have HB := Lib.hid hb
    have HA := Lib.hid ha
    clear hb ha
    by_cases hlt : j < n
    · obtain ⟨s, hs⟩ : ∃ s, R[j]? = some s := ⟨_, List.getElem?_eq_getElem (by have := HN.out; omega)⟩
      have HLT := Lib.hid hlt
      have i1 : (j : Int) < (n : Int) := by omega
      have hcs := own_cells (H.out.keep (w' := wr) fun g hg => HB.out.block g (H.out.lt hg).2) hs
      have e0 : wr.cell? ⟨g, j * 9, none⟩ = some (.int .i64 s.id) := (hcs 0 _ rfl).1
      have e1 := (hcs 1 _ rfl).1
      have e2 := (hcs 2 _ rfl).1
      have e3 := (hcs 3 _ rfl).1
      have e4 := (hcs 4 _ rfl).1
      have e5 := (hcs 5 _ rfl).1
      have e6 := (hcs 6 _ rfl).1
      have e7 := (hcs 7 _ rfl).1
      have e8 := (hcs 8 _ rfl).1
      have HC : Hid (∀ X, Below w.heap.size w X → Calls Try.prog 27 #[.agg #[.int .i64 s.id, .int .i64 s.seq, .int .i64 s.r.e, .string s.r.s, .int .i64 s.r.a, .int .i64 s.r.b, .int .i64 s.r.c, .int .i64 s.r.n, .int .i64 s.u], .pointer (some ⟨P, 0, none⟩), .pointer (some ⟨Q, 0, none⟩)] X (RetBelow (.bool (p s)) X)) := Lib.hid fun X hX => HCL.out s X (List.mem_of_getElem? hs) hX
      have HS := Lib.hid hs
      clear hcs hs
      cases hp : p s with
      | true =>
        have HP := Lib.hid hp
        rw [hp] at HC
        clear hp
        go_wp2_with (go_at_call 27; (with_reducible refine (HC.out _ HB.out).mono ?_); rintro e w1 ⟨rfl, hb1⟩; have HB1 := Lib.hid (HB.out.trans (hb1.mono HB.out.size)); clear hb1)
        go_ret
        exact ⟨HB1.out, .inr ⟨j, s, rfl, HLT.out, HS.out, HP.out, HA.out⟩⟩
      | false =>
        have HP := Lib.hid hp
        rw [hp] at HC
        clear hp
        go_wp2_with (go_at_call 27; (with_reducible refine (HC.out _ HB.out).mono ?_); rintro e w1 ⟨rfl, hb1⟩; have HB1 := Lib.hid (HB.out.trans (hb1.mono HB.out.size)); clear hb1)
        go_roundw
        case rel =>
          refine ⟨j + 1, by go_num, Nat.succ_le_of_lt HLT.out, HB1.out, fun i u hi hu => ?_⟩
          rcases Nat.lt_or_ge i j with q | q
          · exact HA.out i u q hu
          · obtain rfl : i = j := by omega
            rw [HS.out] at hu; cases hu; exact HP.out
        case measure => exact meas_lt HLT.out
    · go_wp2_with fail
      go_ret
      refine ⟨HB.out, .inl ⟨rfl, fun u hu => ?_⟩⟩
      obtain ⟨i, hi, rfl⟩ := List.getElem_of_mem hu
      exact HA.out i _ (by have := HN.out; omega) (List.getElem?_eq_getElem hi)
end Go.Proofs.Ytphclpjekpdifaa
