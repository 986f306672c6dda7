/-
  The number that most members have, as the program finds it. Condition: the slice has at most 1000 numbers.
-/
import Derived.Test.YtebacdegjmcnlaaSo
namespace Go.Proofs.Ytebacdegjmcnlaa
set_option maxRecDepth 20000
open Go.RowKit
set_option linter.unusedVariables false
theorem confAt_any {w : World} {H : Nat → Prop} {A : Option Addr} {n c : Nat} {L : List Int} (hr : Rd DL w H A L) (hn : L.length = n) (i : Nat) (hi : i ≤ 1000) : Calls Try.prog 23 #[.slice A n c, .int .i64 (i : Nat)] w (RetBelow (.int .i64 (CP.atL L i)) w) := by
  by_cases h : n ≤ i
  · have e : CP.atL L i = 0 := by unfold CP.atL; rw [List.getD_eq_getElem?_getD, List.getElem?_eq_none (by omega)]; rfl
    rw [e]
    have g1 : decide (n ≤ i) = true := decide_eq_true h
    clear hr hn e
    go_enter Try.func23, Try.ntmps23
    go_wp2_with fail
    go_ret
    exact ⟨rfl, Below.refl _ _⟩
  · have hx : L[i]? = some (CP.atL L i) := by unfold CP.atL; rw [List.getD_eq_getElem?_getD, List.getElem?_eq_getElem (by omega)]; rfl
    obtain ⟨b, off, rfl, _, _, h4⟩ := hr.at_ hx
    have c1 : w.cell? ⟨b, off + i, none⟩ = some (.int .i64 (CP.atL L i)) := by
      have := h4 0 _ rfl
      rwa [show off + i * DL.m + 0 = off + i by simp [DL]] at this
    have g1 : decide (n ≤ i) = false := decide_eq_false h
    have g2 : (i : Int) < n := by omega
    have g3 : i < n := by omega
    clear hr h4 hx
    generalize CP.atL L i = x at *
    go_enter Try.func23, Try.ntmps23
    go_wp2_with fail
    go_ret
    exact ⟨rfl, Below.refl _ _⟩
theorem vals_len (m : Int) (L : List Int) : (CP.vals m L).length ≤ 7 := by unfold CP.vals; rw [List.length_map]; exact cnt_le m
theorem take_snoc {α : Type} (l : List α) (k : Nat) (h : k < l.length) : l.take (k + 1) = l.take k ++ [l[k]] := by rw [List.take_succ_eq_append_getElem h]
theorem rd_one {w : World} (x : Int) (o : TypeId) : Rd DL (w.alloc (.cells #[.int .i64 x] o)) (fun q => q = w.heap.size) (some ⟨w.heap.size, 0, none⟩) [x] := fun _ => ⟨_, 0, rfl, rfl, by simp, fun i y hy q u hu => by
  obtain ⟨rfl, rfl⟩ := DL_cell (x := u) hu
  match i, hy with
  | 0, hy => obtain rfl : x = y := by simpa using hy
             simp
  | i + 1, hy => simp at hy⟩
set_option maxHeartbeats 1000000 in
theorem confReached_any {w : World} {H : Nat → Prop} {A : Option Addr} {n c : Nat} {L : List Int} (m : Int) (hr : Rd DL w H A L) (hn : L.length = n) : Calls Try.prog 18 #[.int .i64 m, .slice A n c] w (RetBelow (.int .i64 (CP.reached m L)) w) := by
  have HL : Hid (Calls Try.prog 12 #[.int .i64 m] w (LsP (CP.lst m) w)) := Lib.hid (confList_any _ w)
  have HA : Hid (∀ X, Below w.heap.size w X → ∀ i : Nat, i ≤ 1000 → Calls Try.prog 23 #[.slice A n c, .int .i64 (i : Nat)] X (RetBelow (.int .i64 (CP.atL L i)) X)) := Lib.hid fun X hX i hi => confAt_any (hr.below hX) hn i hi
  have h7 := cnt_le m
  have HV : Hid (CP.vals m L = (CP.lst m).map (CP.atL L)) := Lib.hid rfl
  have HLT : Hid (∀ i ∈ CP.lst m, i ≤ 1000) := Lib.hid fun i hi => by
    unfold CP.lst at hi
    split at hi
    · have := CP.R_lt (List.mem_filter.1 hi).1; omega
    · simp at hi
  have HRE : Hid (CP.reached m L = if (CP.vals m L).length = 0 then 0 else max 0 ((CP.srt (CP.vals m L)).getD (((CP.vals m L).length - 1) / 2) 0)) := Lib.hid rfl
  generalize CP.reached m L = re at *
  generalize CP.vals m L = vs at *
  generalize CP.lst m = ls at *
  clear hr
  go_enter Try.func18, Try.ntmps18
  go_wp2_with (go_at_call 12; (with_reducible refine HL.out.mono ?_); rintro e w1 ⟨A2, cap2, rfl, hr2, hc2, hm2, hb1⟩)
  have HR2 := Lib.hid hr2
  have HB1 := Lib.hid hb1
  clear hr2 hb1
  go_loopw [5, 11] (fun v5 v11 wr => ∃ (k : Nat), v11 = .int .i64 (k : Nat) ∧ k ≤ ls.length ∧ Hid (OwnS DL wr (fun q => w1.heap.size ≤ q) v5 (vs.take k)) ∧ Hid (Below w1.heap.size w1 wr)) (fun _ v11 _ => ls.length - (numOf v11).toNat)
  case atStart => exact ⟨0, rfl, by omega, Lib.hid (OwnS.nil DL w1 _ : OwnS DL w1 (fun q => w1.heap.size ≤ q) (.slice none 0 0) (vs.take 0)), Lib.hid (Below.refl _ _)⟩
  case round =>
    obtain ⟨k, rfl, hk, ho, hf⟩ := hrel
    by_cases hk2 : (k : Int) < ls.length
    · have hk3 : k < ls.length := by omega
      have hx : (ints ls)[k]? = some (ls[k] : Int) := by unfold ints; rw [List.getElem?_map, List.getElem?_eq_getElem hk3]; rfl
      obtain ⟨b, off, rfl, _, hlt, h4⟩ := HR2.out.at_ hx
      have c1 : wr.cell? ⟨b, off + k, none⟩ = some (.int .i64 (ls[k] : Nat)) := by
        have := h4 0 _ rfl
        rw [show off + k * DI.m + 0 = off + k by simp [DI]] at this
        rw [← this]
        exact hf.out.cell (p := ⟨b, off + k, none⟩) hlt
      have HC : Hid (∀ X, Below w.heap.size w X → Calls Try.prog 23 #[.slice A n c, .int .i64 (ls[k] : Nat)] X (RetBelow (.int .i64 (CP.atL L ls[k])) X)) := Lib.hid fun X hX => HA.out X hX _ (HLT.out _ (List.getElem_mem hk3))
      have HU : Hid (vs.take k ++ [CP.atL L ls[k]] = vs.take (k + 1)) := Lib.hid (by rw [take_snoc vs k (by rw [HV.out, List.length_map]; exact hk3)]; simp [HV.out])
      have HN : Hid ((vs.take k).length + 1 ≤ 1000000) := Lib.hid (by rw [List.length_take]; omega)
      have HW : Hid (Below w.heap.size w wr) := Lib.hid (HB1.out.trans (hf.out.mono HB1.out.size))
      generalize CP.atL L ls[k] = x at *
      generalize ls[k] = i at *
      clear hx h4 
      go_wp2_with (first
        | (at_builtin; refine wp_appO DL rfl _ _ rfl (fun q => w1.heap.size ≤ q) (fun q => q = w2.heap.size) _ (vs.take k) rfl HO2.out (some ⟨w2.heap.size, 0, none⟩) 1 1 [x] rfl (fun h => by cases h) HR3.out rfl (Nat.le_refl _) HN.out ?_)
        | (go_at_call 23; (with_reducible refine (HC.out _ HW.out).mono ?_); rintro e w2 ⟨rfl, hb2⟩
           have HR3 := Lib.hid (rd_one (w := w2) x 2)
           have HF3 : Hid (Below w1.heap.size w1 (w2.alloc (.cells #[.int .i64 x] 2))) := Lib.hid ((hf.out.trans (hb2.mono hf.out.size)).alloc (by have := hf.out.size; have := hb2.size; omega) _)
           have HO2 : Hid (OwnS DL (w2.alloc (.cells #[.int .i64 x] 2)) (fun q => w1.heap.size ≤ q) u5 (vs.take k)) := Lib.hid (ho.out.below (hb2.alloc hb2.size _))
           clear hb2))
      intro v' w3 ho3 hf3 _
      rw [HU.out] at ho3
      have HO3 : Hid (OwnS DL w3 (fun q => w1.heap.size ≤ q) v' (vs.take (k + 1))) := Lib.hid (ho3.mono fun q _ hq => hq.elim id fun hq => by have := HF3.out.size; omega)
      have HF4 : Hid (Below w1.heap.size w1 w3) := Lib.hid (HF3.out.trans (hf3.below HF3.out.size fun q hq => hq))
      clear ho3 hf3 HO2 HR3 HF3 HU HN ho hf
      go_wp2_with fail
      go_roundw
      case rel => exact ⟨k + 1, rfl, by omega, HO3, HF4⟩
      case measure => simp [numOf]; omega
    · have hk3 : k = ls.length := by omega
      subst hk3
      have ho2 := ho.out
      have hvl : vs.length = ls.length := by rw [HV.out, List.length_map]
      rw [← hvl, List.take_length] at ho2
      obtain ⟨A3, cap3, rfl, h3, h4, hsort⟩ := sort_any ho2 (by omega)
      have HS := Lib.hid hsort
      have HF : Hid (Below w.heap.size w wr) := Lib.hid (HB1.out.trans (hf.out.mono HB1.out.size))
      clear hsort ho2 ho
      rw [hvl] at HS h3 HRE
      by_cases h0 : ls.length = 0
      · have g0 : decide (ls.length = 0) = true := decide_eq_true h0
        have e : re = 0 := by rw [HRE.out, if_pos h0]
        subst e
        clear HRE
        go_wp2_with fail
        go_ret
        exact ⟨rfl, HF.out⟩
      · have g0 : decide (ls.length = 0) = false := decide_eq_false h0
        have e : re = max 0 ((CP.srt vs).getD ((ls.length - 1) / 2) 0) := by rw [HRE.out, if_neg h0]
        obtain ⟨j, hj⟩ : ∃ j, j = (ls.length - 1) / 2 := ⟨_, rfl⟩
        have hjl : j < (CP.srt vs).length := by rw [CP.srt_len]; omega
        have hx : (CP.srt vs)[j]? = some (CP.srt vs)[j] := List.getElem?_eq_getElem hjl
        rw [← hj, List.getD_eq_getElem?_getD, hx, Option.getD_some] at e
        have HX := Lib.hid hx
        have q1 : IntKind.i64.wrap ((ls.length : Int) - 1) = ((ls.length - 1 : Nat) : Int) := by rw [IntKind.wrap_i64]; omega
        have q2 : Int.tdiv ((ls.length - 1 : Nat) : Int) 2 = (j : Int) := by rw [hj, Int.tdiv_eq_ediv_of_nonneg (by omega)]; omega
        have q3 : j < ls.length := by omega
        have q4 : IntKind.i64.wrap (j : Int) = (j : Int) := by rw [IntKind.wrap_i64]; omega
        generalize (CP.srt vs)[j] = y at *
        subst e
        clear HRE hj hx
        go_wp2_with (go_at_call 24; (with_reducible refine HS.out.mono ?_); rintro e w4 ⟨rfl, hr4, hf4⟩
                     obtain ⟨b4, off4, rfl, _, _, hc4⟩ := hr4.at_ HX.out
                     have c4 : w4.cell? ⟨b4, off4 + j, none⟩ = some (.int .i64 y) := by
                       have := hc4 0 _ rfl
                       rwa [show off4 + j * DL.m + 0 = off4 + j by simp [DL]] at this)
        go_ret
        exact ⟨rfl, HF.out.trans (hf4.below HF.out.size fun q hq => by have := HB1.out.size; omega)⟩
end Go.Proofs.Ytebacdegjmcnlaa
