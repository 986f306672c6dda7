import Derived.Test.YtipclhklkngamaaRf
namespace Go.Proofs.Ytipclhklkngamaa
open Go.RowKit
set_option linter.unusedVariables false

/-- a row whose places may be written -/
def RowOk (W w : World) (A : Option Addr) (m : Nat) (H : Nat → Prop) : Prop := m = 0 ∨ ∃ g cs, A = some ⟨g, 0, none⟩ ∧ W.heap.size ≤ g ∧ H g ∧ w.heap[g]? = some (.cells cs 32 (0, 0)) ∧ m * 3 ≤ cs.size
theorem OwnL.rowOk {W w : World} {B : Nat} {A : Option Addr} {m c : Nat} {q : List Let} {H : Nat → Prop} (h : OwnL w B (.slice A m c) q) (hW : W.heap.size ≤ B) (hH : ∀ k, B ≤ k → k < w.heap.size → H k) : RowOk W w A m H := by
  rcases h.2 with ⟨e, hn⟩ | ⟨g, cap, cur, e, hb, hg, hc, hm, hs, _⟩
  · injection e with _ e2 _; exact .inl e2
  · injection e with e1 e2 e3
    refine .inr ⟨g, cur, e1, by omega, hH g hb (Array.getElem?_eq_some_iff.1 hg).1, hg, ?_⟩
    rw [hs, e2]; omega
theorem RowOk.mono {W w w' : World} {A : Option Addr} {m : Nat} {H : Nat → Prop} (h : RowOk W w A m H) (hk : ∀ g, H g → w'.heap[g]? = w.heap[g]?) : RowOk W w' A m H := by
  rcases h with h | ⟨g, cs, h1, h2, h3, h4, h5⟩
  · exact .inl h
  · exact .inr ⟨g, cs, h1, h2, h3, (hk g h3).trans h4, h5⟩
set_option maxHeartbeats 80000000 in
set_option maxRecDepth 100000 in
theorem law_does (v : Value) (xs : List NAct) (w : World) (hx : ActsAt w v xs w.heap.size) :
    Calls Try.prog 3 #[v] w (RetBelow (.bool true) w) := by
  obtain ⟨A, c, rfl, l1, l2⟩ := hx.form
  have HX := Lib.hid hx
  have HAW := Lib.hid (awake_any w)
  clear hx
  go_enter Try.func3, Try.ntmps3
  go_wp2_with fail
  refine HAW.out.mono ?_
  rintro e w1 ⟨rfl, hb1⟩
  have HB1 := Lib.hid hb1
  clear hb1
  go_wp2_with fail
  have C := nc_new (W := w) HB1.out
  refine C.mono ?_
  clear C
  rintro e w2 ⟨rfl, hn, hb2⟩
  have HN : Hid (Duo w (w2.alloc (.cells #[.slice none 0 0, .bool false, .bool false, .bool false, .bool false, .bool false, .bool false, .bool false, .bool false, .bool false, .bool false, .bool false, .bool false, .bool false, .bool false, .bool false, .bool false, .bool false, .bool false, .bool false, .bool false, .bool false, .bool false, .bool false, .bool false, .bool false, .bool false, .bool false, .bool false, .bool false, .bool false, .bool false, .bool false] 30)) w1.heap.size w2.heap.size Net.new Net.new (fun _ => False)) := Lib.hid (Duo.start hn)
  clear hn hb2
  generalize w1.heap.size = b at *
  go_wp2_with fail
  generalize w2.heap.size = r at *
  generalize w2.alloc _ = w3 at *
  go_loopw [5] (fun iV wr => ∃ (i : Nat) (N : Net), iV = .int .i64 (i : Nat) ∧ i ≤ 500 ∧ Hid (Duo w wr b r N N (fun _ => False))) (fun iV _ => 500 - (numOf iV).toNat)
  case atStart => exact ⟨0, _, rfl, by omega, HN⟩
  case round =>
    obtain ⟨i, N, rfl, hi, hn⟩ := hrel
    clear HN
    obtain ⟨wo, hwo⟩ : ∃ q, q = wr := ⟨_, rfl⟩
    subst hwo
    by_cases hil : i < xs.length ∧ i < 500
    · obtain ⟨hil, hi5⟩ := hil
      obtain ⟨y, hy⟩ : ∃ y, xs[i]? = some y := ⟨_, List.getElem?_eq_getElem hil⟩
      obtain ⟨k, off, rfl, hk, d0, d1, d2, d3, d4, hok⟩ := HX.out.one hn.out.below hy
      have HCL : Hid (∀ W' : World, Below w.heap.size w W' → W'.cell? ⟨k, off + i * 5 + 2, none⟩ = some (.int .i64 y.l.f) ∧ W'.cell? ⟨k, off + i * 5 + 3, none⟩ = some (.int .i64 y.l.t) ∧ W'.cell? ⟨k, off + i * 5 + 4, none⟩ = some (.string y.l.b)) := Lib.hid fun W' hb' => by
        have e := (hb'.block k hk).trans (hn.out.below.block k hk).symm
        exact ⟨(World.cell?_of_block e).trans d2, (World.cell?_of_block e).trans d3, (World.cell?_of_block e).trans d4⟩
      have hlen : (i : Int) < (xs.length : Int) := by omega
      have hi500 : (i : Int) < 500 := by omega
      obtain ⟨yk, yn, yl⟩ := y
      have HOK := Lib.hid hok
      have n0 := hok.n0
      have n1 := hok.n1
      have k0 := hok.k0
      have k1 := hok.k1
      dsimp only at *
      clear hok hy
      by_cases h0 : yk = 0
      · subst h0
        obtain ⟨N1, code, hs⟩ : ∃ N1 code, N.send yl = (N1, code) := ⟨_, _, rfl⟩
        have C10 : Hid (∀ W' : World, W' = wo → Calls Try.prog 10 #[.pointer (some ⟨b, 0, none⟩), .agg #[.int .i64 yl.f, .int .i64 yl.t, .string yl.b]] W' fun e w' => e = .returned (.int .i64 code) ∧ Duo w w' b r N1 N (fun _ => False)) := Lib.hid fun W' e => by
          subst e
          have C := duo_send hn.out yl HOK.out.l
          rw [hs] at C
          exact C.mono fun e w' ⟨q1, q2, _⟩ => ⟨q1, q2⟩
        have C10' : Hid (Calls Try.prog 10 #[.pointer (some ⟨b, 0, none⟩), .agg #[.int .i64 yl.f, .int .i64 yl.t, .string yl.b]] wo.drew fun e w' => e = .returned (.int .i64 code) ∧ Duo w w' b r N1 N (fun _ => False)) := Lib.hid (by
          have C := duo_send (hn.out.after (Below.refl _ wo).drew) yl HOK.out.l
          rw [hs] at C
          exact C.mono fun e w' ⟨q1, q2, _⟩ => ⟨q1, q2⟩)
        have C11 : Hid (∀ W', Duo w W' b r N1 N (fun _ => False) → Calls Try.prog 11 #[.pointer (some ⟨r, 0, none⟩), .agg #[.int .i64 yl.f, .int .i64 yl.t, .string yl.b]] W' fun e w' => e = .returned (.int .i64 code) ∧ Duo w w' b r N1 N1 (fun _ => False)) := Lib.hid fun W' h => by
          have C := duo_rsend h yl HOK.out.l
          rw [hs] at C
          exact C.mono fun e w' ⟨q1, q2, _⟩ => ⟨q1, q2⟩
        have e0 : wo.drew.cell? ⟨k, off + i * 5 + 2, none⟩ = some (.int .i64 yl.f) ∧ wo.drew.cell? ⟨k, off + i * 5 + 3, none⟩ = some (.int .i64 yl.t) ∧ wo.drew.cell? ⟨k, off + i * 5 + 4, none⟩ = some (.string yl.b) := HCL.out _ (hn.out.below.drew)
        clear hn hs C10
        go_wp2_with fail
        go_region_held3 (fun W => W.cell? ⟨k, off + i * 5 + 2, none⟩ = some (.int .i64 yl.f) ∧ W.cell? ⟨k, off + i * 5 + 3, none⟩ = some (.int .i64 yl.t) ∧ W.cell? ⟨k, off + i * 5 + 4, none⟩ = some (.string yl.b))
          (first | exact e0 | exact e5 | exact e6)
          (first
            | (go_at_call 10; (with_reducible refine C10'.out.mono ?_); rintro e w5 ⟨rfl, hd5⟩; have HD5 := Lib.hid hd5; have e5 := HCL.out _ hd5.below; clear hd5)
            | (go_at_call 11; (with_reducible refine (C11.out _ HD5.out).mono ?_); rintro e w6 ⟨rfl, hd6⟩; have HD := Lib.hid hd6; have e6 := HCL.out _ hd6.below; clear hd6))
        all_goals
          clear e0 e5 e6 HD5
          clear d0 d1 d2 d3 d4
          go_wp2_with fail
          refine (duo_way HD.out).mono ?_
          rintro e w7 ⟨A7, m7, c7, rfl, o7, hb7, hd7⟩
          have HD7 := Lib.hid hd7
          obtain ⟨v7, vr, _, hvr, _⟩ := hd7.both
          have cr := hvr.queue
          have HSM := Lib.hid (same_yes o7.at' hvr.row.at')
          have HRO := Lib.hid (o7.rowOk (W := w) (H := fun k => w6.heap.size ≤ k ∧ k < w7.heap.size) HD.out.below.size fun k q1 q2 => ⟨q1, q2⟩)
          have hm7 : (m7 : Int) ≤ 9223372036854775807 := by
            obtain ⟨A', c', e, f1, f2, _⟩ := o7.form
            injection e with e1 e2 e3
            omega
          obtain ⟨Ar, cr2, rfl, _⟩ := hvr.row.form
          clear o7 hb7 hd7 hvr HD
          go_wp2_with fail
          refine HSM.out.mono ?_
          clear cr HSM
          rintro e w8 ⟨rfl, hb8⟩
          have HD8 := Lib.hid (HD7.out.after hb8)
          have HR8 := Lib.hid (HRO.out.mono (w' := w8) fun g hg => hb8.block g hg.2)
          clear hb8 HRO HD7
          go_wp2_with fail
          go_loopw [12, 114] (fun _ jV wq => ∃ j : Nat, jV = .int .i64 (j : Nat) ∧ j ≤ m7 ∧ Hid (Duo w wq b r N1 N1 (fun k => w6.heap.size ≤ k ∧ k < w7.heap.size)) ∧ Hid (RowOk w wq A7 m7 (fun k => w6.heap.size ≤ k ∧ k < w7.heap.size))) (fun _ jV _ => m7 - (numOf jV).toNat)
          case atStart => exact ⟨0, rfl, by omega, HD8, HR8⟩
          case round =>
            obtain ⟨j, rfl, hj, hd, hr⟩ := hrel
            clear HD8 HR8
            by_cases hjm : j < m7
            · have hjm2 : (j : Int) < (m7 : Int) := by omega
              rcases hr.out with q | ⟨g, cs, rfl, hWg, hHg, hg, hsz⟩
              · omega
              · obtain ⟨u, cu⟩ : ∃ u, wr.cell? ⟨g, j * 3 + 2, none⟩ = some u := by
                  rw [Lib.cell_of_heap hg]
                  exact ⟨_, Array.getElem?_eq_getElem (by omega)⟩
                have fu : wr.frozen? ⟨g, j * 3 + 2, none⟩ = false := Lib.frozen_of_heap hg _
                have HDN := Lib.hid (hd.out.set (p := ⟨g, j * 3 + 2, none⟩) hHg hWg (.string ⟨#[120]⟩))
                have HRN : Hid (RowOk w (wr.setCell ⟨g, j * 3 + 2, none⟩ (.string ⟨#[120]⟩)) (some ⟨g, 0, none⟩) m7 (fun k => w6.heap.size ≤ k ∧ k < w7.heap.size)) := Lib.hid (.inr ⟨g, _, rfl, hWg, hHg, heap_setCell_same wr g _ _ 32 _ hg, by rw [Array.size_setIfInBounds]; exact hsz⟩)
                clear hg hsz hr hd
                go_wp2_with fail
                go_roundw
                case rel => exact ⟨j + 1, rfl, by omega, HDN, HRN⟩
                case measure => simp [numOf]; omega
            · have hje : (m7 : Int) ≤ (j : Int) := by omega
              have HD9 := Lib.hid (hd.out.fewer (H' := fun _ => False) fun k q => q.elim)
              clear hd hr
              go_wp2_with fail
              go_roundw
              case rel => exact ⟨i + 1, _, rfl, by omega, HD9⟩
              case measure => simp [numOf]; omega
      · have h0' : (yk == 0) = false := beq_eq_false_iff_ne.2 h0
        by_cases h1 : yk = 1
        · subst h1
          obtain ⟨N1, rl, rc, hs⟩ : ∃ N1 rl rc, N.take yn = (N1, rl, rc) := ⟨_, _, _, rfl⟩
          have C12 := duo_take hn.out yn n0 n1
          rw [hs] at C12
          have HC12 := Lib.hid C12
          have HC13 : Hid (∀ W' H, Duo w W' b r N1 N H → Calls Try.prog 13 #[.pointer (some ⟨r, 0, none⟩), .int .i64 yn] W' fun e w' => e = .returned (.tuple #[letV rl, .int .i64 rc]) ∧ Duo w w' b r N1 N1 H ∧ Keep H W' w') := Lib.hid fun W' H h => by
            have C := duo_rtake h yn n0 n1
            rw [hs] at C
            exact C
          have hne := fun W => ne32 rl rl W
          rw [show decide (rl = rl) = true from by simp] at hne
          unfold letV at hne HC13 HC12
          clear hn hs C12
          go_wp2_with fail
          refine HC12.out.mono ?_
          rintro e w4 ⟨rfl, hd4, _⟩
          obtain ⟨W4, hW4⟩ : ∃ W4, w4.alloc (.cells #[.int .i64 rl.f, .int .i64 rl.t, .string rl.b] 32) = W4 := ⟨_, rfl⟩
          have hb4 : Below w4.heap.size w4 W4 := hW4 ▸ (Below.refl w4.heap.size w4).alloc (Nat.le_refl _) _
          have hx4 : W4.heap[w4.heap.size]? = some (boxL rl) := by rw [← hW4]; exact heap_alloc_new w4 _
          have hz4 : W4.heap.size = w4.heap.size + 1 := by rw [← hW4]; simp
          have HD4 := Lib.hid (hd4.hold hb4)
          have HX4 := Lib.hid hx4
          have HZ4 := Lib.hid hz4
          have HW4 := Lib.hid hW4
          have HB4 := Lib.hid (hd4.below.trans (hb4.mono hd4.below.size))
          clear hd4 hb4 hx4 hz4 hW4 HC12
          go_wp2_with fail
          rw [HW4.out]
          refine (HC13.out _ _ HD4.out).mono ?_
          rintro e w5 ⟨rfl, hd5, hk5⟩
          have hx5 : BoxAt w5 w4.heap.size rl := ⟨(hk5.2 _ ⟨Nat.le_refl _, by have := HZ4.out; omega⟩).trans HX4.out⟩
          have x0 := hx5.c0
          have x1 := hx5.c1
          have x2 := hx5.c2
          have hp5 : w4.heap.size < w5.heap.size := by have := hk5.1; have := HZ4.out; omega
          have hb5 : Below w5.heap.size w5 (w5.alloc (.cells #[.int .i64 rl.f, .int .i64 rl.t, .string rl.b] 32)) := (Below.refl _ w5).alloc (Nat.le_refl _) _
          have HD := Lib.hid ((hd5.after hb5).fewer (H' := fun _ => False) fun k q => q.elim)
          clear hd5 hk5 hx5 hb5 HC13 HD4
          go_wp2_with fail
          clear x0 x1 x2 hp5
          clear d0 d1 d2 d3 d4
          refine (duo_way HD.out).mono ?_
          rintro e w7 ⟨A7, m7, c7, rfl, o7, hb7, hd7⟩
          have HD7 := Lib.hid hd7
          obtain ⟨v7, vr, _, hvr, _⟩ := hd7.both
          have cr := hvr.queue
          have HSM := Lib.hid (same_yes o7.at' hvr.row.at')
          have HRO := Lib.hid (o7.rowOk (W := w) (H := fun k => (w5.alloc (.cells #[.int .i64 rl.f, .int .i64 rl.t, .string rl.b] 32)).heap.size ≤ k ∧ k < w7.heap.size) HD.out.below.size fun k q1 q2 => ⟨q1, q2⟩)
          have hm7 : (m7 : Int) ≤ 9223372036854775807 := by
            obtain ⟨A', c', e, f1, f2, _⟩ := o7.form
            injection e with e1 e2 e3
            omega
          obtain ⟨Ar, cr2, rfl, _⟩ := hvr.row.form
          clear o7 hb7 hd7 hvr HD
          go_wp2_with fail
          refine HSM.out.mono ?_
          clear cr HSM
          rintro e w8 ⟨rfl, hb8⟩
          have HD8 := Lib.hid (HD7.out.after hb8)
          have HR8 := Lib.hid (HRO.out.mono (w' := w8) fun g hg => hb8.block g hg.2)
          clear hb8 HRO HD7
          go_wp2_with fail
          go_loopw [12, 114] (fun _ jV wq => ∃ j : Nat, jV = .int .i64 (j : Nat) ∧ j ≤ m7 ∧ Hid (Duo w wq b r N1 N1 (fun k => (w5.alloc (.cells #[.int .i64 rl.f, .int .i64 rl.t, .string rl.b] 32)).heap.size ≤ k ∧ k < w7.heap.size)) ∧ Hid (RowOk w wq A7 m7 (fun k => (w5.alloc (.cells #[.int .i64 rl.f, .int .i64 rl.t, .string rl.b] 32)).heap.size ≤ k ∧ k < w7.heap.size))) (fun _ jV _ => m7 - (numOf jV).toNat)
          case atStart => exact ⟨0, rfl, by omega, HD8, HR8⟩
          case round =>
            obtain ⟨j, rfl, hj, hd, hr⟩ := hrel
            clear HD8 HR8
            by_cases hjm : j < m7
            · have hjm2 : (j : Int) < (m7 : Int) := by omega
              rcases hr.out with q | ⟨g, cs, rfl, hWg, hHg, hg, hsz⟩
              · omega
              · obtain ⟨u, cu⟩ : ∃ u, wr.cell? ⟨g, j * 3 + 2, none⟩ = some u := by
                  rw [Lib.cell_of_heap hg]
                  exact ⟨_, Array.getElem?_eq_getElem (by omega)⟩
                have fu : wr.frozen? ⟨g, j * 3 + 2, none⟩ = false := Lib.frozen_of_heap hg _
                have HDN := Lib.hid (hd.out.set (p := ⟨g, j * 3 + 2, none⟩) hHg hWg (.string ⟨#[120]⟩))
                have HRN : Hid (RowOk w (wr.setCell ⟨g, j * 3 + 2, none⟩ (.string ⟨#[120]⟩)) (some ⟨g, 0, none⟩) m7 (fun k => (w5.alloc (.cells #[.int .i64 rl.f, .int .i64 rl.t, .string rl.b] 32)).heap.size ≤ k ∧ k < w7.heap.size)) := Lib.hid (.inr ⟨g, _, rfl, hWg, hHg, heap_setCell_same wr g _ _ 32 _ hg, by rw [Array.size_setIfInBounds]; exact hsz⟩)
                clear hg hsz hr hd
                go_wp2_with fail
                go_roundw
                case rel => exact ⟨j + 1, rfl, by omega, HDN, HRN⟩
                case measure => simp [numOf]; omega
            · have hje : (m7 : Int) ≤ (j : Int) := by omega
              have HD9 := Lib.hid (hd.out.fewer (H' := fun _ => False) fun k q => q.elim)
              clear hd hr
              go_wp2_with fail
              go_roundw
              case rel => exact ⟨i + 1, _, rfl, by omega, HD9⟩
              case measure => simp [numOf]; omega
        · have h1' : (yk == 1) = false := beq_eq_false_iff_ne.2 h1
          by_cases h2 : yk = 2
          · subst h2
            obtain ⟨N1, code, hs⟩ : ∃ N1 code, N.copy yn = (N1, code) := ⟨_, _, rfl⟩
            have C12 := duo_copy hn.out yn n0 n1
            rw [hs] at C12
            have HC12 := Lib.hid C12
            have HC13 : Hid (∀ W', Duo w W' b r N1 N (fun _ => False) → Calls Try.prog 15 #[.pointer (some ⟨r, 0, none⟩), .int .i64 yn] W' fun e w' => e = .returned (.int .i64 code) ∧ Duo w w' b r N1 N1 (fun _ => False)) := Lib.hid fun W' h => by
              have C := duo_rcopy h yn n0 n1
              rw [hs] at C
              exact C.mono fun e w' ⟨q1, q2, _⟩ => ⟨q1, q2⟩
            clear hn hs C12
            go_wp2_with fail
            refine HC12.out.mono ?_
            rintro e w4 ⟨rfl, hd4, _⟩
            have HD4 := Lib.hid hd4
            clear hd4 HC12
            go_wp2_with fail
            refine (HC13.out _ HD4.out).mono ?_
            rintro e w5 ⟨rfl, hd5⟩
            have HD := Lib.hid hd5
            clear hd5 HD4 HC13
            clear d0 d1 d2 d3 d4
            go_wp2_with fail
            refine (duo_way HD.out).mono ?_
            rintro e w7 ⟨A7, m7, c7, rfl, o7, hb7, hd7⟩
            have HD7 := Lib.hid hd7
            obtain ⟨v7, vr, _, hvr, _⟩ := hd7.both
            have cr := hvr.queue
            have HSM := Lib.hid (same_yes o7.at' hvr.row.at')
            have HRO := Lib.hid (o7.rowOk (W := w) (H := fun k => w5.heap.size ≤ k ∧ k < w7.heap.size) HD.out.below.size fun k q1 q2 => ⟨q1, q2⟩)
            have hm7 : (m7 : Int) ≤ 9223372036854775807 := by
              obtain ⟨A', c', e, f1, f2, _⟩ := o7.form
              injection e with e1 e2 e3
              omega
            obtain ⟨Ar, cr2, rfl, _⟩ := hvr.row.form
            clear o7 hb7 hd7 hvr HD
            go_wp2_with fail
            refine HSM.out.mono ?_
            clear cr HSM
            rintro e w8 ⟨rfl, hb8⟩
            have HD8 := Lib.hid (HD7.out.after hb8)
            have HR8 := Lib.hid (HRO.out.mono (w' := w8) fun g hg => hb8.block g hg.2)
            clear hb8 HRO HD7
            go_wp2_with fail
            go_loopw [12, 114] (fun _ jV wq => ∃ j : Nat, jV = .int .i64 (j : Nat) ∧ j ≤ m7 ∧ Hid (Duo w wq b r N1 N1 (fun k => w5.heap.size ≤ k ∧ k < w7.heap.size)) ∧ Hid (RowOk w wq A7 m7 (fun k => w5.heap.size ≤ k ∧ k < w7.heap.size))) (fun _ jV _ => m7 - (numOf jV).toNat)
            case atStart => exact ⟨0, rfl, by omega, HD8, HR8⟩
            case round =>
              obtain ⟨j, rfl, hj, hd, hr⟩ := hrel
              clear HD8 HR8
              by_cases hjm : j < m7
              · have hjm2 : (j : Int) < (m7 : Int) := by omega
                rcases hr.out with q | ⟨g, cs, rfl, hWg, hHg, hg, hsz⟩
                · omega
                · obtain ⟨u, cu⟩ : ∃ u, wr.cell? ⟨g, j * 3 + 2, none⟩ = some u := by
                    rw [Lib.cell_of_heap hg]
                    exact ⟨_, Array.getElem?_eq_getElem (by omega)⟩
                  have fu : wr.frozen? ⟨g, j * 3 + 2, none⟩ = false := Lib.frozen_of_heap hg _
                  have HDN := Lib.hid (hd.out.set (p := ⟨g, j * 3 + 2, none⟩) hHg hWg (.string ⟨#[120]⟩))
                  have HRN : Hid (RowOk w (wr.setCell ⟨g, j * 3 + 2, none⟩ (.string ⟨#[120]⟩)) (some ⟨g, 0, none⟩) m7 (fun k => w5.heap.size ≤ k ∧ k < w7.heap.size)) := Lib.hid (.inr ⟨g, _, rfl, hWg, hHg, heap_setCell_same wr g _ _ 32 _ hg, by rw [Array.size_setIfInBounds]; exact hsz⟩)
                  clear hg hsz hr hd
                  go_wp2_with fail
                  go_roundw
                  case rel => exact ⟨j + 1, rfl, by omega, HDN, HRN⟩
                  case measure => simp [numOf]; omega
              · have hje : (m7 : Int) ≤ (j : Int) := by omega
                have HD9 := Lib.hid (hd.out.fewer (H' := fun _ => False) fun k q => q.elim)
                clear hd hr
                go_wp2_with fail
                go_roundw
                case rel => exact ⟨i + 1, _, rfl, by omega, HD9⟩
                case measure => simp [numOf]; omega
          · have h2' : (yk == 2) = false := beq_eq_false_iff_ne.2 h2
            by_cases h3 : yk = 3
            · subst h3
              obtain ⟨N1, code, hs⟩ : ∃ N1 code, N.drop yn = (N1, code) := ⟨_, _, rfl⟩
              have C12 := duo_drop hn.out yn n0 n1
              rw [hs] at C12
              have HC12 := Lib.hid C12
              have HC13 : Hid (∀ W', Duo w W' b r N1 N (fun _ => False) → Calls Try.prog 17 #[.pointer (some ⟨r, 0, none⟩), .int .i64 yn] W' fun e w' => e = .returned (.int .i64 code) ∧ Duo w w' b r N1 N1 (fun _ => False)) := Lib.hid fun W' h => by
                have C := duo_rdrop h yn n0 n1
                rw [hs] at C
                exact C.mono fun e w' ⟨q1, q2, _⟩ => ⟨q1, q2⟩
              clear hn hs C12
              go_wp2_with fail
              refine HC12.out.mono ?_
              rintro e w4 ⟨rfl, hd4, _⟩
              have HD4 := Lib.hid hd4
              clear hd4 HC12
              go_wp2_with fail
              refine (HC13.out _ HD4.out).mono ?_
              rintro e w5 ⟨rfl, hd5⟩
              have HD := Lib.hid hd5
              clear hd5 HD4 HC13
              clear d0 d1 d2 d3 d4
              go_wp2_with fail
              refine (duo_way HD.out).mono ?_
              rintro e w7 ⟨A7, m7, c7, rfl, o7, hb7, hd7⟩
              have HD7 := Lib.hid hd7
              obtain ⟨v7, vr, _, hvr, _⟩ := hd7.both
              have cr := hvr.queue
              have HSM := Lib.hid (same_yes o7.at' hvr.row.at')
              have HRO := Lib.hid (o7.rowOk (W := w) (H := fun k => w5.heap.size ≤ k ∧ k < w7.heap.size) HD.out.below.size fun k q1 q2 => ⟨q1, q2⟩)
              have hm7 : (m7 : Int) ≤ 9223372036854775807 := by
                obtain ⟨A', c', e, f1, f2, _⟩ := o7.form
                injection e with e1 e2 e3
                omega
              obtain ⟨Ar, cr2, rfl, _⟩ := hvr.row.form
              clear o7 hb7 hd7 hvr HD
              go_wp2_with fail
              refine HSM.out.mono ?_
              clear cr HSM
              rintro e w8 ⟨rfl, hb8⟩
              have HD8 := Lib.hid (HD7.out.after hb8)
              have HR8 := Lib.hid (HRO.out.mono (w' := w8) fun g hg => hb8.block g hg.2)
              clear hb8 HRO HD7
              go_wp2_with fail
              go_loopw [12, 114] (fun _ jV wq => ∃ j : Nat, jV = .int .i64 (j : Nat) ∧ j ≤ m7 ∧ Hid (Duo w wq b r N1 N1 (fun k => w5.heap.size ≤ k ∧ k < w7.heap.size)) ∧ Hid (RowOk w wq A7 m7 (fun k => w5.heap.size ≤ k ∧ k < w7.heap.size))) (fun _ jV _ => m7 - (numOf jV).toNat)
              case atStart => exact ⟨0, rfl, by omega, HD8, HR8⟩
              case round =>
                obtain ⟨j, rfl, hj, hd, hr⟩ := hrel
                clear HD8 HR8
                by_cases hjm : j < m7
                · have hjm2 : (j : Int) < (m7 : Int) := by omega
                  rcases hr.out with q | ⟨g, cs, rfl, hWg, hHg, hg, hsz⟩
                  · omega
                  · obtain ⟨u, cu⟩ : ∃ u, wr.cell? ⟨g, j * 3 + 2, none⟩ = some u := by
                      rw [Lib.cell_of_heap hg]
                      exact ⟨_, Array.getElem?_eq_getElem (by omega)⟩
                    have fu : wr.frozen? ⟨g, j * 3 + 2, none⟩ = false := Lib.frozen_of_heap hg _
                    have HDN := Lib.hid (hd.out.set (p := ⟨g, j * 3 + 2, none⟩) hHg hWg (.string ⟨#[120]⟩))
                    have HRN : Hid (RowOk w (wr.setCell ⟨g, j * 3 + 2, none⟩ (.string ⟨#[120]⟩)) (some ⟨g, 0, none⟩) m7 (fun k => w5.heap.size ≤ k ∧ k < w7.heap.size)) := Lib.hid (.inr ⟨g, _, rfl, hWg, hHg, heap_setCell_same wr g _ _ 32 _ hg, by rw [Array.size_setIfInBounds]; exact hsz⟩)
                    clear hg hsz hr hd
                    go_wp2_with fail
                    go_roundw
                    case rel => exact ⟨j + 1, rfl, by omega, HDN, HRN⟩
                    case measure => simp [numOf]; omega
                · have hje : (m7 : Int) ≤ (j : Int) := by omega
                  have HD9 := Lib.hid (hd.out.fewer (H' := fun _ => False) fun k q => q.elim)
                  clear hd hr
                  go_wp2_with fail
                  go_roundw
                  case rel => exact ⟨i + 1, _, rfl, by omega, HD9⟩
                  case measure => simp [numOf]; omega
            · have h3' : (yk == 3) = false := beq_eq_false_iff_ne.2 h3
              by_cases h4 : yk = 4
              · subst h4
                have HC12 := Lib.hid (duo_split hn.out yn n0 n1)
                have HC13 : Hid (∀ W', Duo w W' b r (N.split yn) N (fun _ => False) → Calls Try.prog 19 #[.pointer (some ⟨r, 0, none⟩), .int .i64 yn] W' fun e w' => e = .returned (.tuple #[]) ∧ Duo w w' b r (N.split yn) (N.split yn) (fun _ => False)) := Lib.hid fun W' h => (duo_rsplit h yn n0 n1).mono fun e w' ⟨q1, q2, _⟩ => ⟨q1, q2⟩
                obtain ⟨N1, hN1⟩ : ∃ N1, N.split yn = N1 := ⟨_, rfl⟩
                rw [hN1] at HC12 HC13
                clear hn hN1
                go_wp2_with fail
                refine HC12.out.mono ?_
                rintro e w4 ⟨rfl, hd4, _⟩
                have HD4 := Lib.hid hd4
                clear hd4 HC12
                go_wp2_with fail
                refine (HC13.out _ HD4.out).mono ?_
                rintro e w5 ⟨rfl, hd5⟩
                have HD := Lib.hid hd5
                clear hd5 HD4 HC13
                clear d0 d1 d2 d3 d4
                go_wp2_with fail
                refine (duo_way HD.out).mono ?_
                rintro e w7 ⟨A7, m7, c7, rfl, o7, hb7, hd7⟩
                have HD7 := Lib.hid hd7
                obtain ⟨v7, vr, _, hvr, _⟩ := hd7.both
                have cr := hvr.queue
                have HSM := Lib.hid (same_yes o7.at' hvr.row.at')
                have HRO := Lib.hid (o7.rowOk (W := w) (H := fun k => w5.heap.size ≤ k ∧ k < w7.heap.size) HD.out.below.size fun k q1 q2 => ⟨q1, q2⟩)
                have hm7 : (m7 : Int) ≤ 9223372036854775807 := by
                  obtain ⟨A', c', e, f1, f2, _⟩ := o7.form
                  injection e with e1 e2 e3
                  omega
                obtain ⟨Ar, cr2, rfl, _⟩ := hvr.row.form
                clear o7 hb7 hd7 hvr HD
                go_wp2_with fail
                refine HSM.out.mono ?_
                clear cr HSM
                rintro e w8 ⟨rfl, hb8⟩
                have HD8 := Lib.hid (HD7.out.after hb8)
                have HR8 := Lib.hid (HRO.out.mono (w' := w8) fun g hg => hb8.block g hg.2)
                clear hb8 HRO HD7
                go_wp2_with fail
                go_loopw [12, 114] (fun _ jV wq => ∃ j : Nat, jV = .int .i64 (j : Nat) ∧ j ≤ m7 ∧ Hid (Duo w wq b r N1 N1 (fun k => w5.heap.size ≤ k ∧ k < w7.heap.size)) ∧ Hid (RowOk w wq A7 m7 (fun k => w5.heap.size ≤ k ∧ k < w7.heap.size))) (fun _ jV _ => m7 - (numOf jV).toNat)
                case atStart => exact ⟨0, rfl, by omega, HD8, HR8⟩
                case round =>
                  obtain ⟨j, rfl, hj, hd, hr⟩ := hrel
                  clear HD8 HR8
                  by_cases hjm : j < m7
                  · have hjm2 : (j : Int) < (m7 : Int) := by omega
                    rcases hr.out with q | ⟨g, cs, rfl, hWg, hHg, hg, hsz⟩
                    · omega
                    · obtain ⟨u, cu⟩ : ∃ u, wr.cell? ⟨g, j * 3 + 2, none⟩ = some u := by
                        rw [Lib.cell_of_heap hg]
                        exact ⟨_, Array.getElem?_eq_getElem (by omega)⟩
                      have fu : wr.frozen? ⟨g, j * 3 + 2, none⟩ = false := Lib.frozen_of_heap hg _
                      have HDN := Lib.hid (hd.out.set (p := ⟨g, j * 3 + 2, none⟩) hHg hWg (.string ⟨#[120]⟩))
                      have HRN : Hid (RowOk w (wr.setCell ⟨g, j * 3 + 2, none⟩ (.string ⟨#[120]⟩)) (some ⟨g, 0, none⟩) m7 (fun k => w5.heap.size ≤ k ∧ k < w7.heap.size)) := Lib.hid (.inr ⟨g, _, rfl, hWg, hHg, heap_setCell_same wr g _ _ 32 _ hg, by rw [Array.size_setIfInBounds]; exact hsz⟩)
                      clear hg hsz hr hd
                      go_wp2_with fail
                      go_roundw
                      case rel => exact ⟨j + 1, rfl, by omega, HDN, HRN⟩
                      case measure => simp [numOf]; omega
                  · have hje : (m7 : Int) ≤ (j : Int) := by omega
                    have HD9 := Lib.hid (hd.out.fewer (H' := fun _ => False) fun k q => q.elim)
                    clear hd hr
                    go_wp2_with fail
                    go_roundw
                    case rel => exact ⟨i + 1, _, rfl, by omega, HD9⟩
                    case measure => simp [numOf]; omega
              · have h4' : (yk == 4) = false := beq_eq_false_iff_ne.2 h4
                have HD := hn
                clear hn
                go_wp2_with fail
                clear d0 d1 d2 d3 d4
                refine (duo_way HD.out).mono ?_
                rintro e w7 ⟨A7, m7, c7, rfl, o7, hb7, hd7⟩
                have HD7 := Lib.hid hd7
                obtain ⟨v7, vr, _, hvr, _⟩ := hd7.both
                have cr := hvr.queue
                have HSM := Lib.hid (same_yes o7.at' hvr.row.at')
                have HRO := Lib.hid (o7.rowOk (W := w) (H := fun k => wo.heap.size ≤ k ∧ k < w7.heap.size) HD.out.below.size fun k q1 q2 => ⟨q1, q2⟩)
                have hm7 : (m7 : Int) ≤ 9223372036854775807 := by
                  obtain ⟨A', c', e, f1, f2, _⟩ := o7.form
                  injection e with e1 e2 e3
                  omega
                obtain ⟨Ar, cr2, rfl, _⟩ := hvr.row.form
                clear o7 hb7 hd7 hvr HD
                go_wp2_with fail
                refine HSM.out.mono ?_
                clear cr HSM
                rintro e w8 ⟨rfl, hb8⟩
                have HD8 := Lib.hid (HD7.out.after hb8)
                have HR8 := Lib.hid (HRO.out.mono (w' := w8) fun g hg => hb8.block g hg.2)
                clear hb8 HRO HD7
                go_wp2_with fail
                go_loopw [12, 114] (fun _ jV wq => ∃ j : Nat, jV = .int .i64 (j : Nat) ∧ j ≤ m7 ∧ Hid (Duo w wq b r N N (fun k => wo.heap.size ≤ k ∧ k < w7.heap.size)) ∧ Hid (RowOk w wq A7 m7 (fun k => wo.heap.size ≤ k ∧ k < w7.heap.size))) (fun _ jV _ => m7 - (numOf jV).toNat)
                case atStart => exact ⟨0, rfl, by omega, HD8, HR8⟩
                case round =>
                  obtain ⟨j, rfl, hj, hd, hr⟩ := hrel
                  clear HD8 HR8
                  by_cases hjm : j < m7
                  · have hjm2 : (j : Int) < (m7 : Int) := by omega
                    rcases hr.out with q | ⟨g, cs, rfl, hWg, hHg, hg, hsz⟩
                    · omega
                    · obtain ⟨u, cu⟩ : ∃ u, wr.cell? ⟨g, j * 3 + 2, none⟩ = some u := by
                        rw [Lib.cell_of_heap hg]
                        exact ⟨_, Array.getElem?_eq_getElem (by omega)⟩
                      have fu : wr.frozen? ⟨g, j * 3 + 2, none⟩ = false := Lib.frozen_of_heap hg _
                      have HDN := Lib.hid (hd.out.set (p := ⟨g, j * 3 + 2, none⟩) hHg hWg (.string ⟨#[120]⟩))
                      have HRN : Hid (RowOk w (wr.setCell ⟨g, j * 3 + 2, none⟩ (.string ⟨#[120]⟩)) (some ⟨g, 0, none⟩) m7 (fun k => wo.heap.size ≤ k ∧ k < w7.heap.size)) := Lib.hid (.inr ⟨g, _, rfl, hWg, hHg, heap_setCell_same wr g _ _ 32 _ hg, by rw [Array.size_setIfInBounds]; exact hsz⟩)
                      clear hg hsz hr hd
                      go_wp2_with fail
                      go_roundw
                      case rel => exact ⟨j + 1, rfl, by omega, HDN, HRN⟩
                      case measure => simp [numOf]; omega
                  · have hje : (m7 : Int) ≤ (j : Int) := by omega
                    have HD9 := Lib.hid (hd.out.fewer (H' := fun _ => False) fun k q => q.elim)
                    clear hd hr
                    go_wp2_with fail
                    go_roundw
                    case rel => exact ⟨i + 1, _, rfl, by omega, HD9⟩
                    case measure => simp [numOf]; omega
    · have hil2 : (xs.length : Int) ≤ (i : Int) ∨ ((i : Int) < (xs.length : Int) ∧ (500 : Int) ≤ (i : Int)) := by omega
      have C20 : Hid (Calls Try.prog 20 #[.pointer (some ⟨b, 0, none⟩)] wo.drew fun e w' => ∃ A m c, e = .returned (.slice A m c) ∧ LsAt w' (.slice A m c) N.q (fun k => (Value.slice A m c).ownBlock = some k) ∧ Below wo.heap.size wo w') := Lib.hid ((duo_way (hn.out.after (Below.refl _ wo).drew)).mono fun e w' ⟨A, m, c, q1, q2, q3, q4⟩ => ⟨A, m, c, q1, q2.at', (Below.refl _ wo).drew.trans q3⟩)
      obtain ⟨v7, vr, _, hvr, _⟩ := hn.out.both
      have cr := hvr.queue
      obtain ⟨Ar, cr2, rfl, _⟩ := hvr.row.form
      have HLR := Lib.hid hvr.row.at'
      have hrl := hvr.lt
      have HBO := Lib.hid hn.out.below
      have e0 : wo.drew.cell? ⟨r, 0, none⟩ = some (.slice Ar N.q.length cr2) := cr
      obtain ⟨mq, hmq⟩ : ∃ mq, N.q.length = mq := ⟨_, rfl⟩
      rw [hmq] at cr HLR e0
      clear hvr hn hmq hil
      have SK : Hid (∀ W' : World, Below wo.heap.size wo W' → W'.cell? ⟨r, 0, none⟩ = some (.slice Ar mq cr2)) := Lib.hid fun W' hb => (hb.cell (p := ⟨r, 0, none⟩) hrl).trans cr
      clear cr
      rcases hil2 with h1 | ⟨h1, h2⟩
      all_goals
        go_wp2_with fail
        go_region_held3 (fun W => W.cell? ⟨r, 0, none⟩ = some (.slice Ar mq cr2))
          (first | exact e0 | exact e5 | exact e6)
          (first
            | (go_at_call 20; (with_reducible refine C20.out.mono ?_); rintro e w5 ⟨A5, m5, c5, rfl, hl5, hb5⟩; have HL5 := Lib.hid hl5; have HLR5 := Lib.hid (HLR.out.belows hb5); have HB5 := Lib.hid hb5; have e5 := SK.out _ hb5; clear hl5 hb5)
            | (go_at_call 21; (with_reducible refine (same_yes HL5.out HLR5.out).mono ?_); rintro e w6 ⟨rfl, hb6⟩; have HB6 := Lib.hid (HB5.out.trans (hb6.mono HB5.out.size)); have e6 := SK.out _ HB6.out; clear hb6))
        all_goals
          go_wp2_with fail
          go_ret
          exact ⟨rfl, HBO.out.trans (HB6.out.mono HBO.out.size)⟩
end Go.Proofs.Ytipclhklkngamaa
