import Derived.Test.YtphclpjekpdifaaTc
import Derived.BigQuiet
import Derived.LoopTactic
namespace Go.Proofs.Ytphclpjekpdifaa
set_option maxRecDepth 20000
open Go.RowKit
open SP
theorem below_drewN {B : Nat} {a w : World} (h : Below B a w) (n : Nat) : Below B a (w.drewN n) := h.trans ⟨rfl, rfl, rfl, Nat.le_refl _, fun _ _ => rfl⟩
open Go.Proofs.Ytphclpjekpdifaa.Nm (str)
open Wi (RetBelow)
set_option linter.unusedVariables false
/-! ### a session found -/
theorem clos_any (p q b g cap n i : Nat) (x id : Int) (X : World) (hi : i < n) (h1 : X.cell? ⟨p, 0, none⟩ = some (.pointer (some ⟨b, 0, none⟩))) (h2 : X.cell? ⟨q, 0, none⟩ = some (.int .i64 id)) (h3 : X.cell? ⟨b, 2, none⟩ = some (.slice (some ⟨g, 0, none⟩) n cap)) (h4 : X.cell? ⟨g, i * 9, none⟩ = some (.int .i64 x)) :
    Calls Try.prog 32 #[.int .i64 i, .pointer (some ⟨p, 0, none⟩), .pointer (some ⟨q, 0, none⟩)] X (RetBelow (.bool (decide (id ≤ x))) X) := by
  have hi' : (i : Int) < n := by omega
  have HB := Lib.hid (Below.refl X.heap.size X).drew
  go_enter Try.func32, Try.ntmps32
  go_wp2_with fail
  go_quiet (fail)
  all_goals go_wp2_with fail
  all_goals go_ret
  all_goals exact ⟨rfl, below_drewN (Below.refl _ _) _⟩
/-- how many numbers are below this one -/
theorem search_any (p q n : Nat) (L : List Ses) (id : Int) (w : World) (hn : L.length = n) (hsm : n ≤ 1000) (hs : L.Pairwise fun a b => a.id < b.id)
    (HCL : Hid (∀ (i : Nat) (s : Ses) (X : World), L[i]? = some s → Below w.heap.size w X → Calls Try.prog 32 #[.int .i64 (i : Int), .pointer (some ⟨p, 0, none⟩), .pointer (some ⟨q, 0, none⟩)] X (RetBelow (.bool (decide (id ≤ s.id))) X))) :
    Calls Try.prog 31 #[.int .i64 n, .func (.func 32) #[] #[.pointer (some ⟨p, 0, none⟩), .pointer (some ⟨q, 0, none⟩)]] w fun e w' => ∃ k : Nat, e = .returned (.int .i64 k) ∧ k ≤ n ∧ (∀ (j : Nat) (s : Ses), j < k → L[j]? = some s → s.id < id) ∧ (∀ (j : Nat) (s : Ses), k ≤ j → L[j]? = some s → id ≤ s.id) ∧ Below w.heap.size w w' := by
  have HN := Lib.hid hn
  have HS := Lib.hid hs
  clear hn hs
  go_enter Try.func31, Try.ntmps31
  go_wp2_with fail
  go_loopw [5, 6] (fun lV hV wr => ∃ (lo hi : Nat), lV = .int .i64 (lo : Int) ∧ hV = .int .i64 (hi : Int) ∧ lo ≤ hi ∧ hi ≤ n ∧ Below w.heap.size w wr ∧ (∀ (j : Nat) (s : Ses), j < lo → L[j]? = some s → s.id < id) ∧ (∀ (j : Nat) (s : Ses), hi ≤ j → L[j]? = some s → id ≤ s.id)) (fun lV hV _ => (intOf hV).toNat - (intOf lV).toNat)
  case atStart => exact ⟨0, n, rfl, rfl, Nat.zero_le _, Nat.le_refl _, Below.refl _ _, fun j s h => absurd h (Nat.not_lt_zero _), fun j s h hx => absurd (List.getElem?_eq_some_iff.1 hx).1 (by have := HN.out; omega)⟩
  case round =>
    obtain ⟨lo, hi, rfl, rfl, hlh, hin, hb, a1, a2⟩ := hrel
    have HB := Lib.hid hb
    have HA1 := Lib.hid a1
    have HA2 := Lib.hid a2
    clear hb a1 a2
    by_cases hlt : lo < hi
    · obtain ⟨s, hx⟩ : ∃ s, L[(lo + hi) / 2]? = some s := ⟨_, List.getElem?_eq_getElem (by have := HN.out; omega)⟩
      have hc := HCL.out ((lo + hi) / 2) s
      rw [show (((lo + hi) / 2 : Nat) : Int) = ((lo : Int) + (hi : Int)) / 2 by omega] at hc
      have HC := Lib.hid (fun X => hc X hx)
      have HX := Lib.hid hx
      clear hc hx
      have SRT : Hid (∀ (j k : Nat) (u v : Ses), j < k → L[j]? = some u → L[k]? = some v → u.id < v.id) := Lib.hid fun j k u v hjk hu hv => by
        obtain ⟨q1, rfl⟩ := List.getElem?_eq_some_iff.1 hu
        obtain ⟨q2, rfl⟩ := List.getElem?_eq_some_iff.1 hv
        exact (List.pairwise_iff_getElem.1 HS.out) j k q1 q2 hjk
      by_cases hd : id ≤ s.id
      · have HD := Lib.hid hd
        have gd : decide (id ≤ s.id) = true := by simpa using hd
        rw [gd] at HC
        clear hd gd
        go_wp2_with (go_at_call 32; (with_reducible refine (HC.out _ HB.out).mono ?_); rintro e w1 ⟨rfl, hb1⟩)
        have HB1 := Lib.hid (HB.out.trans (hb1.mono HB.out.size))
        clear hb1
        go_roundw
        case rel =>
          refine ⟨lo, (lo + hi) / 2, rfl, by rw [show (((lo + hi) / 2 : Nat) : Int) = ((lo : Int) + (hi : Int)) / 2 by omega], by omega, by omega, HB1.out, HA1.out, fun j u hj hu => ?_⟩
          rcases Nat.lt_or_ge ((lo + hi) / 2) j with q | q
          · have := SRT.out _ _ _ _ q HX.out hu
            have := HD.out
            omega
          · obtain rfl : j = (lo + hi) / 2 := by omega
            rw [HX.out] at hu; cases hu; exact HD.out
        case measure => simp [intOf]; omega
      · have HD := Lib.hid hd
        have gd : decide (id ≤ s.id) = false := by simpa using hd
        rw [gd] at HC
        clear hd gd
        go_wp2_with (go_at_call 32; (with_reducible refine (HC.out _ HB.out).mono ?_); rintro e w1 ⟨rfl, hb1⟩)
        have HB1 := Lib.hid (HB.out.trans (hb1.mono HB.out.size))
        clear hb1
        go_roundw
        case rel =>
          refine ⟨(lo + hi) / 2 + 1, hi, by rw [show ((lo : Int) + (hi : Int)) / 2 + 1 = (((lo + hi) / 2 + 1 : Nat) : Int) by omega], rfl, by omega, hin, HB1.out, fun j u hj hu => ?_, HA2.out⟩
          have hdd : s.id < id := by have := HD.out; omega
          rcases Nat.lt_or_ge j ((lo + hi) / 2) with q | q
          · have := SRT.out _ _ _ _ q hu HX.out
            omega
          · obtain rfl : j = (lo + hi) / 2 := by omega
            rw [HX.out] at hu; cases hu; exact hdd
        case measure => simp [intOf]; omega
    · obtain rfl : hi = lo := by omega
      go_wp2_with fail
      go_ret
      exact ⟨hi, rfl, hin, HA1.out, HA2.out, HB.out⟩
/-- where the cells of a session stand -/
theorem TAt.cells {w : World} {b : Nat} {T : Tb} {v : Value} {S : Nat → Prop} (h : TAt w b T v S) {k : Nat} {s : Ses} (hk : T.L[k]? = some s) : ∃ g cap, v = .slice (some ⟨g, 0, none⟩) T.L.length cap ∧ v.ownBlock = some g ∧ g < w.heap.size ∧ ∀ q u, (sesC s)[q]? = some u → w.cell? ⟨g, k * 9 + q, none⟩ = some u ∧ w.frozen? ⟨g, k * 9 + q, none⟩ = false := by
  have hne : T.L ≠ [] := fun e => by rw [e] at hk; simp at hk
  have hr := h.row
  rcases h.row.2 with ⟨e, hn⟩ | ⟨g, cap, cur, rfl, hg, hgg, _⟩
  · exact absurd (List.eq_nil_of_length_eq_zero hn) hne
  · refine ⟨g, cap, rfl, rfl, (Array.getElem?_eq_some_iff.1 hgg).1, fun q u hu => ?_⟩
    have h1 := hr.cells (g := g) rfl (k * 9 + q) u (flat_get DS T.L k s hk q u hu)
    rw [show ((⟨g, 0, none⟩ : Addr).add (k * 9 + q)) = ⟨g, k * 9 + q, none⟩ from by unfold Addr.add; split <;> simp_all] at h1
    exact ⟨h1, by simp [World.frozen?, hgg]⟩
def FindP (w : World) (T : Tb) (id : Int) (v : Value) (e : Ending) (w' : World) : Prop := Below w.heap.size w w' ∧ (findS T.L id = none ∧ e = .returned (.pointer none) ∨ ∃ (g k cap : Nat) (s : Ses), findS T.L id = some s ∧ T.L[k]? = some s ∧ v = .slice (some ⟨g, 0, none⟩) T.L.length cap ∧ e = .returned (.pointer (some ⟨g, k * 9, none⟩)))
set_option maxHeartbeats 1000000 in
theorem find_at {w : World} {b : Nat} {T : Tb} {v : Value} {S : Nat → Prop} (h : TAt w b T v S) (hI : Inv T) (id : Int) : Calls Try.prog 21 #[.pointer (some ⟨b, 0, none⟩), .int .i64 id] w (FindP w T id v) := by
  have hlen := hI.len
  have hlb : b < w.heap.size := h.lt b h.own
  obtain ⟨A, cap, hv, _, hcap, hcm, _⟩ := h.row.form
  have HC : Hid (∀ (i : Nat) (s : Ses), T.L[i]? = some s → ∃ g, A = some ⟨g, 0, none⟩ ∧ g < w.heap.size ∧ w.cell? ⟨g, i * 9, none⟩ = some (.int .i64 s.id)) := Lib.hid fun i s hx => by
    obtain ⟨g, c2, e, _, hl, hc⟩ := h.cells hx
    rw [hv] at e
    injection e with e1 e2 e3
    exact ⟨g, e1, hl, (hc 0 _ rfl).1⟩
  have HX := Lib.hid h.box
  rw [hv] at HX
  subst hv
  have HSRT := Lib.hid hI.srt
  generalize hn : T.L.length = n at *
  have HN := Lib.hid hn
  clear hI h hn
  have HB0 : Hid (Below w.heap.size w ((w.alloc (.cells #[.pointer (some ⟨b, 0, none⟩)] 29)).alloc (.cells #[.int .i64 id] 2))) := Lib.hid (below_2 w _ _)
  have HP0 : Hid (((w.alloc (.cells #[.pointer (some ⟨b, 0, none⟩)] 29)).alloc (.cells #[.int .i64 id] 2)).heap[w.heap.size]? = some (.cells #[.pointer (some ⟨b, 0, none⟩)] 29 (0, 0))) := Lib.hid ((Below.heap_alloc _ _ _ (by simp)).trans (heap_alloc_new _ _))
  have HQ0 : Hid (((w.alloc (.cells #[.pointer (some ⟨b, 0, none⟩)] 29)).alloc (.cells #[.int .i64 id] 2)).heap[w.heap.size + 1]? = some (.cells #[.int .i64 id] 2 (0, 0))) := Lib.hid (by rw [show w.heap.size + 1 = (w.alloc (.cells #[.pointer (some ⟨b, 0, none⟩)] 29)).heap.size from by simp]; exact heap_alloc_new _ _)
  have HSZ : Hid (((w.alloc (.cells #[.pointer (some ⟨b, 0, none⟩)] 29)).alloc (.cells #[.int .i64 id] 2)).heap.size = w.heap.size + 2) := Lib.hid (by simp)
  obtain ⟨W, HW⟩ : ∃ W, Hid (W = ((w.alloc (.cells #[.pointer (some ⟨b, 0, none⟩)] 29)).alloc (.cells #[.int .i64 id] 2))) := ⟨_, Lib.hid rfl⟩
  rw [← HW.out] at HB0 HP0 HQ0 HSZ
  have cp : Hid (∀ X, Below W.heap.size W X → X.cell? ⟨w.heap.size, 0, none⟩ = some (.pointer (some ⟨b, 0, none⟩)) ∧ X.cell? ⟨w.heap.size + 1, 0, none⟩ = some (.int .i64 id) ∧ X.cell? ⟨b, 2, none⟩ = some (.slice A n cap)) := Lib.hid fun X hX => by
    have hz := HSZ.out
    refine ⟨cellB (cell_of_row W _ 0 _ _ _ HP0.out) hX (by omega), cellB (cell_of_row W _ 0 _ _ _ HQ0.out) hX (by omega), ?_⟩
    exact cellB (cellB (tcells HX.out).2.2.1 HB0.out hlb) hX (by omega)
  have HCL : Hid (∀ (i : Nat) (s : Ses) (X : World), T.L[i]? = some s → Below W.heap.size W X → Calls Try.prog 32 #[.int .i64 (i : Int), .pointer (some ⟨w.heap.size, 0, none⟩), .pointer (some ⟨w.heap.size + 1, 0, none⟩)] X (RetBelow (.bool (decide (id ≤ s.id))) X)) := Lib.hid fun i s X hx hX => by
    obtain ⟨g, rfl, hl, hc⟩ := HC.out i s hx
    have hi : i < n := by rw [← HN.out]; exact (List.getElem?_eq_some_iff.1 hx).1
    obtain ⟨q1, q2, q3⟩ := cp.out X hX
    exact clos_any _ _ b g cap n i s.id id X hi q1 q2 q3 (cellB (cellB hc HB0.out hl) hX (by have := HSZ.out; omega))
  have HSE := Lib.hid (search_any w.heap.size (w.heap.size + 1) n T.L id W HN.out (by omega) HSRT.out HCL)
  obtain ⟨k1, k2, k3⟩ := cp.out W (Below.refl _ _)
  clear k1 k2 k3
  have hmf : ∀ (fn : Fn) (first cap : Array Value) (w : World), (Instr.makeFunc fn first cap).run Try.prog w = .ok (.func fn first cap) w := fun _ _ _ _ => rfl
  obtain ⟨_, _, x2, _⟩ := tcells HX.out
  go_enter Try.func21, Try.ntmps21
  go_wp2_with (go_at_call 31; (rw [← HW.out]; with_reducible refine HSE.out.mono ?_); rintro e w1 ⟨k, rfl, hk, a1, a2, hb1⟩; have HB1 := Lib.hid hb1; have HA1 := Lib.hid a1; have HA2 := Lib.hid a2; obtain ⟨k1, k2, k3⟩ := cp.out w1 hb1; clear hb1 a1 a2)
  have HBB := Lib.hid (HB0.out.trans (HB1.out.mono HB0.out.size))
  by_cases hkn : k = n
  · have e1 : ((k : Int) == (n : Int)) = true := by simp [hkn]
    have hf : findS T.L id = none := find_none' fun s hs => by
      obtain ⟨j, hj, rfl⟩ := List.getElem_of_mem hs
      have := HA1.out j _ (by have := HN.out; omega) (List.getElem?_eq_getElem hj)
      omega
    have HF := Lib.hid hf
    clear hf hkn
    go_quiet (fail)
    all_goals go_wp2_with fail
    all_goals go_ret
    all_goals exact ⟨below_drewN HBB.out _, .inl ⟨HF.out, rfl⟩⟩
  · have hkl : k < n := by omega
    obtain ⟨s, hx⟩ : ∃ s, T.L[k]? = some s := ⟨_, List.getElem?_eq_getElem (by have := HN.out; omega)⟩
    have e1 : ((k : Int) == (n : Int)) = false := by simp; omega
    obtain ⟨g, rfl, hgl, hc⟩ := HC.out k s hx
    have hc1 := cellB (cellB hc HB0.out hgl) HB1.out (by have := HSZ.out; omega)
    have i1 : (k : Int) < (n : Int) := by omega
    have HX := Lib.hid hx
    clear hx hc
    by_cases hd : s.id = id
    · have e2 : (s.id != id) = false := by simp [hd]
      have hf := find_split HSRT.out HX.out hd
      have HF := Lib.hid hf
      clear hf hd
      go_quiet (fail)
      all_goals go_wp2_with fail
      all_goals go_ret
      all_goals exact ⟨below_drewN HBB.out _, .inr ⟨g, k, cap, s, HF.out, HX.out, by rw [HN.out], rfl⟩⟩
    · have e2 : (s.id != id) = true := by simp [hd]
      have hf : findS T.L id = none := find_none' fun u hu => by
        obtain ⟨j, hj, rfl⟩ := List.getElem_of_mem hu
        have hju : T.L[j]? = some T.L[j] := List.getElem?_eq_getElem hj
        rcases Nat.lt_or_ge j k with q | q
        · have := HA1.out j _ q hju
          omega
        · rcases Nat.lt_or_eq_of_le q with q2 | q2
          · obtain ⟨hl, hxx⟩ := List.getElem?_eq_some_iff.1 HX.out
            have := (List.pairwise_iff_getElem.1 HSRT.out) k j hl hj q2
            have h2 := HA2.out k _ (Nat.le_refl _) HX.out
            rw [hxx] at this
            omega
          · subst q2
            rw [HX.out] at hju
            cases hju
            exact hd
      have HF := Lib.hid hf
      clear hf hd
      go_quiet (fail)
      all_goals go_wp2_with fail
      all_goals go_ret
      all_goals exact ⟨below_drewN HBB.out _, .inl ⟨HF.out, rfl⟩⟩
end Go.Proofs.Ytphclpjekpdifaa
