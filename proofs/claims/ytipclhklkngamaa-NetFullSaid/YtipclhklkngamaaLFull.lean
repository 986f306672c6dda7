import Derived.Test.YtipclhklkngamaaNm
namespace Go.Proofs.Ytipclhklkngamaa
open Go.RowKit
set_option linter.unusedVariables false

/-- an act done to a net -/
def stepN (N : Net) (x : NAct) : Net :=
  if x.kind = 0 then (N.send x.l).1 else if x.kind = 1 then (N.take x.n).1 else if x.kind = 2 then (N.copy x.n).1 else if x.kind = 3 then (N.drop x.n).1 else N
theorem Net.put_len (N : Net) (l : Let) : (N.put l).1.q.length = if 400 ≤ N.q.length then N.q.length else N.q.length + 1 := by
  unfold Net.put; split <;> simp
set_option maxHeartbeats 4000000 in
set_option maxRecDepth 100000 in
theorem law_full (v : Value) (xs : List NAct) (x : Let) (w : World) (hx : ActsAt w v xs w.heap.size) (hf : Fit x) :
    Calls Try.prog 7 #[v, letV x] w (RetBelow (.bool true) w) := by
  obtain ⟨A, c, rfl, l1, l2⟩ := hx.form
  have HX := Lib.hid hx
  have HF := Lib.hid hf
  have HLX := Lib.hid (show (letV x = letV x) from rfl)
  obtain ⟨W, hW⟩ : ∃ W, w.alloc (boxL x) = W := ⟨_, rfl⟩
  have hb : Below w.heap.size w W := hW ▸ (Below.refl w.heap.size w).alloc (Nat.le_refl _) _
  have hbx : BoxAt W w.heap.size x := ⟨by rw [← hW]; exact heap_alloc_new w _⟩
  have hz : W.heap.size = w.heap.size + 1 := by rw [← hW]; simp
  have HW := Lib.hid hW
  have HB := Lib.hid hb
  have HBX := Lib.hid hbx
  have HZ := Lib.hid hz
  have HAW := Lib.hid (awake_any W)
  have HBC : Hid (∀ W', Below W.heap.size W W' → W'.cell? ⟨w.heap.size, 0, none⟩ = some (.int .i64 x.f) ∧ W'.cell? ⟨w.heap.size, 1, none⟩ = some (.int .i64 x.t) ∧ W'.cell? ⟨w.heap.size, 2, none⟩ = some (.string x.b)) := Lib.hid fun W' hb' => by
    have := hbx.below hb'
    exact ⟨this.c0, this.c1, this.c2⟩
  have hf0 := hf.f0
  have hf1 := hf.f1
  have ht0 := hf.t0
  have ht1 := hf.t1
  clear hW hb hbx hz hx hf
  unfold letV
  unfold boxL at HW
  go_enter Try.func7, Try.ntmps7
  go_wp2_with fail
  rw [HW.out]
  go_wp2_with fail
  refine HAW.out.mono ?_
  rintro e w1 ⟨rfl, hb1⟩
  have HB1 := Lib.hid hb1
  clear hb1
  go_wp2_with fail
  have C := nc_new (W := W) HB1.out
  refine C.mono ?_
  clear C
  rintro e w2 ⟨rfl, hn, hb2⟩
  have HN := Lib.hid hn
  clear hn hb2
  generalize w1.heap.size = b at *
  go_wp2_with fail
  go_loopw [6] (fun iV wr => ∃ (i : Nat) (N : Net), iV = .int .i64 (i : Nat) ∧ i ≤ 500 ∧ Hid (NC W wr b N (fun _ => False))) (fun iV _ => 500 - (numOf iV).toNat)
  case atStart => exact ⟨0, _, rfl, by omega, HN⟩
  case round =>
    obtain ⟨i, N, rfl, hi, hn⟩ := hrel
    clear HN
    by_cases hil : i < xs.length ∧ i < 500
    · obtain ⟨hil, hi5⟩ := hil
      obtain ⟨y, hy⟩ : ∃ y, xs[i]? = some y := ⟨_, List.getElem?_eq_getElem hil⟩
      obtain ⟨k, off, rfl, hk, c0, c1, c2, c3, c4, hok⟩ := HX.out.one (HB.out.trans (hn.out.below.mono HB.out.size)) hy
      have hlen : (i : Int) < (xs.length : Int) := by omega
      have hi500 : (i : Int) < 500 := by omega
      clear hy
      obtain ⟨yk, yn, yl⟩ := y
      have HOK := Lib.hid hok
      have n0 := hok.n0
      have n1 := hok.n1
      have k0 := hok.k0
      have k1 := hok.k1
      dsimp only at *
      clear hok
      by_cases h0 : yk = 0
      · subst h0
        go_wp2_with fail
        refine (nc_send hn.out yl HOK.out.l).mono ?_
        rintro e w3 ⟨rfl, hn3, _⟩
        have HN3 := Lib.hid hn3
        clear hn3
        go_wp2_with fail
        go_roundw
        case rel => exact ⟨i + 1, _, rfl, by omega, HN3⟩
        case measure => simp [numOf]; omega
      · have h0' : (yk == 0) = false := beq_eq_false_iff_ne.2 h0
        by_cases h1 : yk = 1
        · subst h1
          go_wp2_with fail
          refine (nc_take hn.out yn HOK.out.n0 HOK.out.n1).mono ?_
          rintro e w3 ⟨rfl, hn3, _⟩
          have HN3 := Lib.hid hn3
          clear hn3
          go_wp2_with fail
          go_roundw
          case rel => exact ⟨i + 1, _, rfl, by omega, HN3⟩
          case measure => simp [numOf]; omega
        · have h1' : (yk == 1) = false := beq_eq_false_iff_ne.2 h1
          by_cases h2 : yk = 2
          · subst h2
            go_wp2_with fail
            refine (nc_copy hn.out yn HOK.out.n0 HOK.out.n1).mono ?_
            rintro e w3 ⟨rfl, hn3, _⟩
            have HN3 := Lib.hid hn3
            clear hn3
            go_wp2_with fail
            go_roundw
            case rel => exact ⟨i + 1, _, rfl, by omega, HN3⟩
            case measure => simp [numOf]; omega
          · have h2' : (yk == 2) = false := beq_eq_false_iff_ne.2 h2
            by_cases h3 : yk = 3
            · subst h3
              go_wp2_with fail
              refine (nc_drop hn.out yn HOK.out.n0 HOK.out.n1).mono ?_
              rintro e w3 ⟨rfl, hn3, _⟩
              have HN3 := Lib.hid hn3
              clear hn3
              go_wp2_with fail
              go_roundw
              case rel => exact ⟨i + 1, _, rfl, by omega, HN3⟩
              case measure => simp [numOf]; omega
            · have h3' : (yk == 3) = false := beq_eq_false_iff_ne.2 h3
              go_wp2_with fail
              go_roundw
              case rel => exact ⟨i + 1, _, rfl, by omega, hn⟩
              case measure => simp [numOf]; omega
    · have hil2 : (xs.length : Int) ≤ (i : Int) ∨ ((i : Int) < (xs.length : Int) ∧ (500 : Int) ≤ (i : Int)) := by omega
      have HMANY := Lib.hid hn.out.ok.many
      have hml : (N.q.length : Int) ≤ 400 := by have := HMANY.out; omega
      have HCASE : (Net.okL x = true ∧ N.q.length < 400 ∧ 0 ≤ x.f ∧ x.f < 32 ∧ 0 ≤ x.t ∧ x.t < 32) ∨ (Net.okL x = true ∧ N.q.length = 400 ∧ 0 ≤ x.f ∧ x.f < 32 ∧ 0 ≤ x.t ∧ x.t < 32) ∨ (Net.okL x = false ∧ (x.f < 0 ∨ (0 ≤ x.f ∧ 32 ≤ x.f) ∨ (0 ≤ x.f ∧ x.f < 32 ∧ x.t < 0) ∨ (0 ≤ x.f ∧ x.f < 32 ∧ 0 ≤ x.t ∧ 32 ≤ x.t))) := by
        cases ho : Net.okL x with
        | true =>
          have := Net.ok_places ho
          have := HMANY.out
          by_cases hl : N.q.length < 400
          · exact .inl ⟨rfl, hl, by omega, by omega, by omega, by omega⟩
          · exact .inr (.inl ⟨rfl, by omega, by omega, by omega, by omega, by omega⟩)
        | false =>
          simp only [Net.okL, Net.place, Bool.and_eq_false_iff, decide_eq_false_iff_not] at ho
          exact .inr (.inr ⟨rfl, by omega⟩)
      have HE : Hid (∃ N4 code, N.send x = (N4, code) ∧ (Net.okL x = true → N.q.length < 400 → code = 0 ∧ N4.q.length = N.q.length + 1) ∧ (Net.okL x = true → N.q.length = 400 → code = 40 ∧ N4.q.length = N.q.length) ∧ (Net.okL x = false → code = 1 ∧ N4.q.length = N.q.length)) := Lib.hid (by
        refine ⟨(N.send x).1, (N.send x).2, rfl, fun h1 h2 => ?_, fun h1 h2 => ?_, fun h1 => ?_⟩
        · unfold Net.send Net.put; rw [if_pos h1, if_neg (by omega)]; simp
        · unfold Net.send Net.put; rw [if_pos h1, if_pos (by omega)]; simp
        · unfold Net.send; rw [if_neg (by rw [h1]; simp)]; simp)
      obtain ⟨N4, code, hE, e1, e2, e3⟩ := HE.out
      have HS := Lib.hid hE
      have HCF : Hid (∀ w3, NC W w3 b N (fun _ => False) → Calls Try.prog 10 #[.pointer (some ⟨b, 0, none⟩), .agg #[.int .i64 x.f, .int .i64 x.t, .string x.b]] w3 fun e w' => e = .returned (.int .i64 code) ∧ NC W w' b N4 (fun _ => False)) := Lib.hid fun w3 h3 => by
        have C := nc_send h3 x HF.out
        rw [hE] at C
        exact C.mono fun e w' ⟨q1, q2, _⟩ => ⟨q1, q2⟩
      have hcl : (0 ≤ x.f ∧ x.f < 32 ∧ 0 ≤ x.t ∧ x.t < 32 ∧ code = 0 ∧ (N.q.length : Int) < 400 ∧ (N4.q.length : Int) = N.q.length + 1) ∨ (0 ≤ x.f ∧ x.f < 32 ∧ 0 ≤ x.t ∧ x.t < 32 ∧ code = 40 ∧ (N.q.length : Int) = 400 ∧ (N4.q.length : Int) = N.q.length) ∨
          (x.f < 0 ∧ code = 1 ∧ (N4.q.length : Int) = N.q.length) ∨ (0 ≤ x.f ∧ 32 ≤ x.f ∧ code = 1 ∧ (N4.q.length : Int) = N.q.length) ∨ (0 ≤ x.f ∧ x.f < 32 ∧ x.t < 0 ∧ code = 1 ∧ (N4.q.length : Int) = N.q.length) ∨ (0 ≤ x.f ∧ x.f < 32 ∧ 0 ≤ x.t ∧ 32 ≤ x.t ∧ code = 1 ∧ (N4.q.length : Int) = N.q.length) := by
        rcases HCASE with ⟨h1, h2, h3⟩ | ⟨h1, h2, h3⟩ | ⟨h1, h2⟩
        · have := e1 h1 h2; omega
        · have := e2 h1 h2; omega
        · have := e3 h1; omega
      clear HE hE e1 e2 e3 HCASE HS hil
      rcases hil2 with h1 | ⟨h1, h2⟩
      all_goals
        rcases hcl with ⟨p0, p1, p2, p3, rfl, p5, p6⟩ | ⟨p0, p1, p2, p3, rfl, p5, p6⟩ | ⟨p0, rfl, p6⟩ | ⟨p0, p1, rfl, p6⟩ | ⟨p0, p1, p2, rfl, p6⟩ | ⟨p0, p1, p2, p3, rfl, p6⟩
        all_goals
          try have pd : decide (x.t < 32) = false := decide_eq_false (by omega)
          go_wp2_with fail
          refine (nc_way hn.out).mono ?_
          rintro e w3 ⟨A3, c3, rfl, _, _, hn3⟩
          have HN3 := Lib.hid hn3
          obtain ⟨x0, x1, x2⟩ := HBC.out _ hn3.below
          clear hn3
          go_wp2_with fail
          refine (HCF.out _ HN3.out).mono ?_
          clear x0 x1 x2
          rintro e w4 ⟨rfl, hn4⟩
          have HN4 := Lib.hid hn4
          obtain ⟨x0, x1, x2⟩ := HBC.out _ hn4.below
          clear hn4
          go_wp2_with fail
          refine (nc_way HN4.out).mono ?_
          rintro e w5 ⟨A5, c5, rfl, _, _, hn5⟩
          have HB5 := Lib.hid (HB.out.trans (hn5.below.mono HB.out.size))
          clear hn5
          go_wp2_with fail
          go_ret
          exact ⟨rfl, HB5.out⟩
end Go.Proofs.Ytipclhklkngamaa
