import Derived.Test.YtphclpjekpdifaaTi
import Derived.Deep.RegionWith
namespace Go.Proofs.Ytphclpjekpdifaa
set_option maxRecDepth 20000
open Go.RowKit
open SP
open Go.Proofs.Ytphclpjekpdifaa.Nm (str)
open Wi (RetBelow)
set_option linter.unusedVariables false
/-! ### what is old is struck -/
theorem set_app0 {A B : List Value} (u : Value) : (A ++ B).set A.length u = A ++ B.set 0 u := set_app (i := 0) u
theorem flat_set9 (x : Ses) : ∀ (R : List Ses) (i : Nat), i < R.length → ((((((((((flat DS R).set (i * 9) (.int .i64 x.id)).set (i * 9 + 1) (.int .i64 x.seq)).set (i * 9 + 2) (.int .i64 x.r.e)).set (i * 9 + 3) (.string x.r.s)).set (i * 9 + 4) (.int .i64 x.r.a)).set (i * 9 + 5) (.int .i64 x.r.b)).set (i * 9 + 6) (.int .i64 x.r.c)).set (i * 9 + 7) (.int .i64 x.r.n)).set (i * 9 + 8) (.int .i64 x.u)) = flat DS (R.set i x)
  | [], i, h => by simp at h
  | y :: r, 0, h => rfl
  | y :: r, i + 1, h => by
    have ih := flat_set9 x r i (by simpa using h)
    have e : ∀ q, (i + 1) * 9 + q = (DS.C y).length + (i * 9 + q) := fun q => by rw [show (DS.C y).length = 9 from rfl]; omega
    have e0 : (i + 1) * 9 = (DS.C y).length + (i * 9) := by rw [show (DS.C y).length = 9 from rfl]; omega
    simp only [flat, List.set_cons_succ, e]
    rw [e0, set_app]
    simp only [set_app]
    rw [ih]
theorem own_set9 {w : World} {g n cap : Nat} {R : List Ses} (h : Own DS w 0 (.slice (some ⟨g, 0, none⟩) n cap) R) {i : Nat} (hi : i < R.length) (x : Ses) : Own DS (((((((((w.setCell ⟨g, i * 9, none⟩ (.int .i64 x.id)).setCell ⟨g, i * 9 + 1, none⟩ (.int .i64 x.seq)).setCell ⟨g, i * 9 + 2, none⟩ (.int .i64 x.r.e)).setCell ⟨g, i * 9 + 3, none⟩ (.string x.r.s)).setCell ⟨g, i * 9 + 4, none⟩ (.int .i64 x.r.a)).setCell ⟨g, i * 9 + 5, none⟩ (.int .i64 x.r.b)).setCell ⟨g, i * 9 + 6, none⟩ (.int .i64 x.r.c)).setCell ⟨g, i * 9 + 7, none⟩ (.int .i64 x.r.n)).setCell ⟨g, i * 9 + 8, none⟩ (.int .i64 x.u)) 0 (.slice (some ⟨g, 0, none⟩) n cap) (R.set i x) ∧ Fr (· = g) w (((((((((w.setCell ⟨g, i * 9, none⟩ (.int .i64 x.id)).setCell ⟨g, i * 9 + 1, none⟩ (.int .i64 x.seq)).setCell ⟨g, i * 9 + 2, none⟩ (.int .i64 x.r.e)).setCell ⟨g, i * 9 + 3, none⟩ (.string x.r.s)).setCell ⟨g, i * 9 + 4, none⟩ (.int .i64 x.r.a)).setCell ⟨g, i * 9 + 5, none⟩ (.int .i64 x.r.b)).setCell ⟨g, i * 9 + 6, none⟩ (.int .i64 x.r.c)).setCell ⟨g, i * 9 + 7, none⟩ (.int .i64 x.r.n)).setCell ⟨g, i * 9 + 8, none⟩ (.int .i64 x.u)) := by
  have hg : (Value.slice (some ⟨g, 0, none⟩) n cap).ownBlock = some g := rfl
  have hr := (ownsRow_set (i := i * 9 + 8) (ownsRow_set (i := i * 9 + 7) (ownsRow_set (i := i * 9 + 6) (ownsRow_set (i := i * 9 + 5) (ownsRow_set (i := i * 9 + 4) (ownsRow_set (i := i * 9 + 3) (ownsRow_set (i := i * 9 + 2) (ownsRow_set (i := i * 9 + 1) (ownsRow_set (i := i * 9) h hg (.int .i64 x.id)) hg (.int .i64 x.seq)) hg (.int .i64 x.r.e)) hg (.string x.r.s)) hg (.int .i64 x.r.a)) hg (.int .i64 x.r.b)) hg (.int .i64 x.r.c)) hg (.int .i64 x.r.n)) hg (.int .i64 x.u))
  have hf := ((((((((((Fr.refl (· = g) w).setCell (p := ⟨g, i * 9, none⟩) (.inl rfl) (.int .i64 x.id)).setCell (p := ⟨g, i * 9 + 1, none⟩) (.inl rfl) (.int .i64 x.seq)).setCell (p := ⟨g, i * 9 + 2, none⟩) (.inl rfl) (.int .i64 x.r.e)).setCell (p := ⟨g, i * 9 + 3, none⟩) (.inl rfl) (.string x.r.s)).setCell (p := ⟨g, i * 9 + 4, none⟩) (.inl rfl) (.int .i64 x.r.a)).setCell (p := ⟨g, i * 9 + 5, none⟩) (.inl rfl) (.int .i64 x.r.b)).setCell (p := ⟨g, i * 9 + 6, none⟩) (.inl rfl) (.int .i64 x.r.c)).setCell (p := ⟨g, i * 9 + 7, none⟩) (.inl rfl) (.int .i64 x.r.n)).setCell (p := ⟨g, i * 9 + 8, none⟩) (.inl rfl) (.int .i64 x.u))
  refine ⟨?_, hf⟩
  show World.ownsRow _ _ _ _ _ _ _
  rw [List.length_set, ← flat_set9 x R i hi]
  exact hr
theorem filter_step {p : Ses → Bool} {L : List Ses} {j : Nat} {s : Ses} (hs : L[j]? = some s) : (L.take (j + 1)).filter p = (L.take j).filter p ++ (if p s = true then [s] else []) := by
  rw [List.take_add_one, hs, List.filter_append]
  congr 1
  simp only [Option.toList_some, List.filter_cons, List.filter_nil]
def DelP (L : List Ses) (p : Ses → Bool) (g cap : Nat) (w : World) (e : Ending) (w' : World) : Prop := e = .returned (.slice (some ⟨g, 0, none⟩) (L.filter fun s => !p s).length cap) ∧ Own DS w' 0 (.slice (some ⟨g, 0, none⟩) (L.filter fun s => !p s).length cap) (L.filter fun s => !p s) ∧ Fr (· = g) w w'
theorem own_fr {w w' : World} {g n cap : Nat} {R : List Ses} (h : Own DS w 0 (.slice (some ⟨g, 0, none⟩) n cap) R) (hb : Below w.heap.size w w') : Own DS w' 0 (.slice (some ⟨g, 0, none⟩) n cap) R := h.below hb
set_option maxHeartbeats 2000000 in
theorem delete_any (g n cap P Q : Nat) (L : List Ses) (p : Ses → Bool) (w : World) (h : Own DS w 0 (.slice (some ⟨g, 0, none⟩) n cap) L) (hn : L.length = n) (hnc : n ≤ cap) (hsm : n ≤ 1000) (hcm : cap ≤ 9223372036854775807)
    (HCL : Hid (∀ (s : Ses) (X : World), s ∈ L → Fr (· = g) w X → Calls Try.prog 27 #[sesV s, .pointer (some ⟨P, 0, none⟩), .pointer (some ⟨Q, 0, none⟩)] X (RetBelow (.bool (p s)) X))) :
    Calls Try.prog 26 #[.slice (some ⟨g, 0, none⟩) n cap, .func (.func 27) #[] #[.pointer (some ⟨P, 0, none⟩), .pointer (some ⟨Q, 0, none⟩)]] w (DelP L p g cap w) := by
  have H := Lib.hid h
  have HN := Lib.hid hn
  have HIX := Lib.hid (index_any g n cap P Q L p w h hn hsm (Lib.hid fun s X hs hX => HCL.out s X hs (Fr.of_below hX)))
  clear h hn
  go_enter Try.func26, Try.ntmps26
  go_wp2_with fail
  (with_reducible refine HIX.out.mono ?_)
  rintro e w1 ⟨hb1, ⟨rfl, hall⟩ | ⟨k, s0, rfl, hk, hs0, hp0, hbef⟩⟩
  · have HB1 := Lib.hid hb1
    have hfl : (L.filter fun s => !p s) = L := List.filter_eq_self.2 fun s hs => by rw [hall s hs]; rfl
    have HFL := Lib.hid hfl
    clear hb1 hall hfl
    go_wp2_with fail
    go_ret
    unfold DelP
    rw [HFL.out, HN.out]
    exact ⟨rfl, H.out.below HB1.out, Fr.of_below HB1.out⟩
  · have g1 : ((k : Int) == -1) = false := beq_eq_false_iff_ne.2 (by omega)
    have HB1 := Lib.hid hb1
    have HK : Hid ((L.take (k + 1)).filter (fun s => !p s) = L.take k) := Lib.hid (by
      rw [filter_step hs0, hp0]
      have : (L.take k).filter (fun s => !p s) = L.take k := List.filter_eq_self.2 fun s hs => by
        obtain ⟨j, hj, rfl⟩ := List.getElem_of_mem hs
        rw [List.getElem_take, hbef j _ (by rw [List.length_take] at hj; omega) (List.getElem?_eq_getElem _)]
        rfl
      rw [this]
      simp)
    have HKN := Lib.hid hk
    clear hb1 hs0 hp0 hbef
    go_wp2_with fail
    go_loopw [5, 6] (fun iV jV wr => ∃ (i j : Nat) (R : List Ses), iV = .int .i64 (i : Int) ∧ jV = .int .i64 (j : Int) ∧ i < j ∧ j ≤ n ∧ R.length = n ∧ R.take i = (L.take j).filter (fun s => !p s) ∧ (∀ m, j ≤ m → R[m]? = L[m]?) ∧ Own DS wr 0 (.slice (some ⟨g, 0, none⟩) n cap) R ∧ Fr (· = g) w wr) (fun _ jV _ => n - (intOf jV).toNat)
    case atStart => exact ⟨k, k + 1, L, rfl, (by have := HKN.out; go_num), by omega, HKN.out, HN.out, HK.out.symm, fun m _ => rfl, H.out.below HB1.out, Fr.of_below HB1.out⟩
    case round =>
      obtain ⟨i, j, R, rfl, rfl, hij, hjn, hRn, hRt, hRm, hown, hfr⟩ := hrel
      have HRN := Lib.hid hRn
      have HRT := Lib.hid hRt
      have HRM := Lib.hid hRm
      have HO := Lib.hid hown
      have HF := Lib.hid hfr
      have HIJ := Lib.hid hij
      clear hRn hRt hRm hown hfr
      by_cases hlt : j < n
      · obtain ⟨s, hs⟩ : ∃ s, L[j]? = some s := ⟨_, List.getElem?_eq_getElem (by have := HN.out; omega)⟩
        have hsR := (HRM.out j (Nat.le_refl _)).trans hs
        have HLT := Lib.hid hlt
        have i1 : (j : Int) < (n : Int) := by omega
        have i2 : (i : Int) < (n : Int) := by omega
        have hcs := own_cells HO.out hsR
        have e0 : wr.cell? ⟨g, j * 9, none⟩ = some (.int .i64 s.id) := (hcs 0 _ rfl).1
        have e1 := (hcs 1 _ rfl).1
        have e2 := (hcs 2 _ rfl).1
        have e3 := (hcs 3 _ rfl).1
        have e4 := (hcs 4 _ rfl).1
        have e5 := (hcs 5 _ rfl).1
        have e6 := (hcs 6 _ rfl).1
        have e7 := (hcs 7 _ rfl).1
        have e8 := (hcs 8 _ rfl).1
        have HC : Hid (∀ X, Fr (· = g) w X → Calls Try.prog 27 #[.agg #[.int .i64 s.id, .int .i64 s.seq, .int .i64 s.r.e, .string s.r.s, .int .i64 s.r.a, .int .i64 s.r.b, .int .i64 s.r.c, .int .i64 s.r.n, .int .i64 s.u], .pointer (some ⟨P, 0, none⟩), .pointer (some ⟨Q, 0, none⟩)] X (RetBelow (.bool (p s)) X)) := Lib.hid fun X hX => HCL.out s X (List.mem_of_getElem? hs) hX
        have HS := Lib.hid hs
        have HFS := filter_step (p := fun s => !p s) hs
        have HWA := Lib.hid (heap_alloc_new wr (.cells #[.int .i64 s.id, .int .i64 s.seq, .int .i64 s.r.e, .string s.r.s, .int .i64 s.r.a, .int .i64 s.r.b, .int .i64 s.r.c, .int .i64 s.r.n, .int .i64 s.u] 52))
        have HFA := Lib.hid (HF.out.alloc (.cells #[.int .i64 s.id, .int .i64 s.seq, .int .i64 s.r.e, .string s.r.s, .int .i64 s.r.a, .int .i64 s.r.b, .int .i64 s.r.c, .int .i64 s.r.n, .int .i64 s.u] 52))
        have HBA := Lib.hid ((Below.refl wr.heap.size wr).alloc (Nat.le_refl _) (.cells #[.int .i64 s.id, .int .i64 s.seq, .int .i64 s.r.e, .string s.r.s, .int .i64 s.r.a, .int .i64 s.r.b, .int .i64 s.r.c, .int .i64 s.r.n, .int .i64 s.u] 52))
        clear hcs hs hsR
        cases hp : p s with
        | true =>
          rw [hp] at HC HFS
          have HFS := Lib.hid HFS
          clear hp
          go_wp2_with (go_at_call 27; (with_reducible refine (HC.out _ HFA.out).mono ?_); rintro e w2 ⟨rfl, hb2⟩; have HB2 := Lib.hid hb2; clear hb2)
          go_roundw
          case rel =>
            refine ⟨i, j + 1, R, rfl, by go_num, by have := HIJ.out; omega, Nat.succ_le_of_lt HLT.out, HRN.out, ?_, fun m hm => HRM.out m (by omega), (HO.out.below HBA.out).below HB2.out, HFA.out.trans (Fr.of_below (S := (· = g)) HB2.out) fun i q => .inl q⟩
            rw [HFS.out, HRT.out]
            simp
          case measure => exact meas_lt HLT.out
        | false =>
          rw [hp] at HC HFS
          have HFS := Lib.hid HFS
          clear hp
          go_wp2_with (go_at_call 27; (with_reducible refine (HC.out _ HFA.out).mono ?_); rintro e w2 ⟨rfl, hb2⟩; have HB2 := Lib.hid hb2; have HW2 := Lib.hid ((hb2.block wr.heap.size (by simp)).trans HWA.out); obtain ⟨m0, m1, m2, m3, m4, m5, m6, m7, m8, _⟩ := rowc9 HW2.out; have HO2 := Lib.hid ((HO.out.below HBA.out).below hb2); obtain ⟨y, hy⟩ : ∃ y, R[i]? = some y := ⟨_, List.getElem?_eq_getElem (by have := HRN.out; omega)⟩; have hcs := own_cells HO2.out hy; have q0 : w2.cell? ⟨g, i * 9, none⟩ = _ := (hcs 0 _ rfl).1; have p0 : w2.frozen? ⟨g, i * 9, none⟩ = _ := (hcs 0 _ rfl).2; obtain ⟨q1, p1⟩ := hcs 1 _ rfl; obtain ⟨q2, p2⟩ := hcs 2 _ rfl; obtain ⟨q3, p3⟩ := hcs 3 _ rfl; obtain ⟨q4, p4⟩ := hcs 4 _ rfl; obtain ⟨q5, p5⟩ := hcs 5 _ rfl; obtain ⟨q6, p6⟩ := hcs 6 _ rfl; obtain ⟨q7, p7⟩ := hcs 7 _ rfl; obtain ⟨q8, p8⟩ := hcs 8 _ rfl; clear hcs hb2)
          go_roundw
          case rel =>
            obtain ⟨o9, f9⟩ := own_set9 HO2.out (i := i) (by have := HRN.out; have := HIJ.out; have := HLT.out; omega) s
            refine ⟨i + 1, j + 1, R.set i s, by go_num, by go_num, by have := HIJ.out; omega, Nat.succ_le_of_lt HLT.out, by rw [List.length_set]; exact HRN.out, ?_, fun m hm => by rw [List.getElem?_set_ne (by have := HIJ.out; omega)]; exact HRM.out m (by omega), o9, (HFA.out.trans (Fr.of_below (S := (· = g)) HB2.out) fun i q => .inl q).trans f9 fun i q => .inl q⟩
            have hil : i < R.length := by have := HRN.out; have := HIJ.out; have := HLT.out; omega
            rw [HFS.out, ← HRT.out, List.take_add_one, List.getElem?_set_self hil, List.take_set, List.set_eq_of_length_le (by rw [List.length_take]; omega)]
            rfl
          case measure => exact meas_lt HLT.out
      · obtain rfl : j = n := by omega
        obtain ⟨w9, hcl, ho9, hf9⟩ := own_clear HO.out HRN.out (i := i) HIJ.out
        have HO9 := Lib.hid ho9
        have HF9 := Lib.hid (HF.out.trans hf9 fun i q => .inl q)
        have HLF : Hid (L.filter (fun s => !p s) = R.take i) := Lib.hid (by rw [HRT.out, ← HN.out, List.take_length])
        have i3 : (i : Int) ≤ (j : Int) := by omega
        have i4 : (j : Int) ≤ (cap : Int) := by omega
        have i5 : ¬ cap = i := by omega
        have i6 : ¬ i = cap := by omega
        have i7 : i ≤ j := by omega
        have i8 : i ≤ cap := by omega
        clear ho9 hf9
        go_wp2_with fail
        go_ret
        have hln : (R.take i).length = i := by rw [List.length_take]; have := HRN.out; have := HIJ.out; omega
        unfold DelP
        rw [HLF.out, hln]
        exact ⟨rfl, HO9.out, HF9.out⟩
end Go.Proofs.Ytphclpjekpdifaa
