import Derived.Test.YtggndipfholllaaKu
import Derived.Test.YtggndipfholllaaLtears
namespace Go.Proofs.Ytggndipfholllaa
open Go.RowKit
open PlainDisk (File Disk)
set_option linter.unusedVariables false

/-- a row of bytes of the call's own, whatever they are -/
def OwnU (w : World) (v : Value) (n : Nat) : Prop := ∃ us : List Value, w.ownsRow 0 5 1 v n us ∧ us.length = n ∧ ∀ u ∈ us, ∃ z : Int, u = .int .u8 z
theorem OwnB.ownU {w : World} {base : Nat} {v : Value} {l : List UInt8} (h : OwnB w base v l) : OwnU w v l.length :=
  ⟨vB l, own_mono h (Nat.zero_le _), vB_length l, fun u hu => by
    simp only [vB, List.mem_map] at hu
    obtain ⟨y, _, rfl⟩ := hu
    exact ⟨_, rfl⟩⟩
theorem OwnU.at {w : World} {A : Option Addr} {n c k : Nat} (h : OwnU w (.slice A n c) n) (hk : k < n) : ∃ g z, A = some ⟨g, 0, none⟩ ∧ w.cell? ⟨g, k, none⟩ = some (.int .u8 z) ∧ w.frozen? ⟨g, k, none⟩ = false ∧
    ∀ y : Int, OwnU (w.setCell ⟨g, k, none⟩ (.int .u8 y)) (.slice A n c) n := by
  obtain ⟨us, h1, h2, h3⟩ := h
  rcases h1.2 with ⟨_, q⟩ | ⟨g, cap, cur, e, hb, hh, r1, r2, r3, r4⟩
  · omega
  · have e0 := e
    injection e with e1
    obtain ⟨u, hu⟩ : ∃ u, us[k]? = some u := ⟨_, List.getElem?_eq_getElem (by omega)⟩
    obtain ⟨z, rfl⟩ := h3 u (List.mem_of_getElem? hu)
    refine ⟨g, z, e1, ?_, Lib.frozen_of_heap hh k, fun y => ?_⟩
    · rw [Lib.cell_of_heap hh]
      show cur[k]? = some _
      rw [← Array.getElem?_toList]
      rw [← r4, List.getElem?_take] at hu
      split at hu
      · exact hu
      · cases hu
    · subst e1
      have HV : w.ownsRow 0 5 1 (.slice (some ⟨g, 0, none⟩) n c) n us := h1
      refine ⟨us.set k (.int .u8 y), (World.ownsRow.stored HV k (.int .u8 y)).1, by rw [List.length_set]; exact h2, fun u hu => ?_⟩
      rcases List.mem_or_eq_of_mem_set hu with q | q
      · exact h3 u q
      · exact ⟨y, q⟩

theorem OwnB.src {w : World} {base b : Nat} {v : Value} {l : List UInt8} (h : OwnB w base v l) (hb : b < base) : Src w v l b := by
  obtain ⟨A, c, h1, h2, h3, h4, h5⟩ := h.bat (S := fun k => base ≤ k) (fun k h1 _ => h1)
  refine ⟨A, c, h1, h2, h3, h4, fun hne => ?_⟩
  obtain ⟨k, off, cs, fz, e1, e2, e3, e4⟩ := h5 hne
  exact ⟨k, off, e1, by omega, fun j u hu => by rw [Lib.cell_of_heap e3]; exact e4 j u hu⟩
theorem Duo.ge2 {w wi : World} {b1 b2 : Nat} {D1 D2 : Disk} {K : Nat → Prop} (h : Duo w wi b1 D1 b2 D2 K) : w.heap.size ≤ b2 := by
  obtain ⟨S2, _, ⟨Lv, ps, _, hS, _⟩, h3, _⟩ := h
  exact (h3 b2 hS).1

set_option maxHeartbeats 8000000 in
set_option maxRecDepth 100000 in
theorem law_does (room : Int) (v : Value) (xs : List PlainDisk.Act) (w : World) (r0 : -9223372036854775808 ≤ room) (r1 : room ≤ 9223372036854775807) (hx : ActsAt w v xs w.heap.size) :
    Calls Try.prog 3 #[.int .i64 room, v] w (RetBelow (.bool true) w) := by
  have HAW := Lib.hid (awake_any w)
  obtain ⟨A, c, rfl, l1, l2⟩ := hx.form
  have HX := Lib.hid hx
  clear hx
  by_cases hr : room < 0 ∨ 1048576 < room
  · have HN := Lib.hid (fun W => new_no room W r0 r1 hr)
    have HN2 := Lib.hid (fun W => (refNew_no room W r0 r1 hr).mono (fun _ _ h => And.intro h.1 h.2.symm))
    have hr2 : room < 0 ∨ (0 ≤ room ∧ 1048576 < room) := by omega
    rcases hr2 with hr2 | ⟨hr2, hr3⟩
    all_goals
      go_enter Try.func3, Try.ntmps3
      go_wp2_with fail
      refine HAW.out.mono ?_
      rintro e w1 ⟨rfl, hb1⟩
      go_wp2_with fail
      refine (HN.out _).mono ?_
      rintro e w' ⟨rfl, rfl⟩
      go_wp2_with fail
      refine (HN2.out _).mono ?_
      rintro e w' ⟨rfl, rfl⟩
      go_wp2_with fail
      go_ret
      exact ⟨rfl, hb1⟩
  · obtain ⟨R, rfl⟩ : ∃ R : Nat, room = (R : Int) := ⟨room.toNat, by omega⟩
    have hR : R ≤ 1048576 := by omega
    have HN := Lib.hid (fun W => new_ch R W hR)
    have HN2 := Lib.hid (fun W => refNew_yes R W hR)
    go_enter Try.func3, Try.ntmps3
    go_wp2_with fail
    refine HAW.out.mono ?_
    rintro e w1 ⟨rfl, hb1⟩
    have HB1 := Lib.hid hb1
    clear hb1
    go_wp2_with fail
    refine (HN.out _).mono ?_
    rintro e w2 ⟨rfl, hch⟩
    have HC0 : Hid (Ch w w2 w1.heap.size (PlainDisk.new R)) := Lib.hid (by
      obtain ⟨⟨S, q1, q2⟩, q3, q4⟩ := hch
      exact ⟨⟨S, q1, fun k hk => ⟨Nat.le_trans HB1.out.size (q2 k hk).1, (q2 k hk).2⟩⟩, HB1.out.trans (q3.mono HB1.out.size), q4⟩)
    clear hch
    generalize w1.heap.size = b at *
    go_wp2_with fail
    refine (HN2.out _).mono ?_
    rintro e w3 ⟨rfl, hrf, hb3⟩
    have HD0 := Lib.hid (Duo.start HC0.out hrf (fine_new R hR) hb3 hrf.cell2.2)
    clear hrf hb3 HC0
    generalize w2.heap.size = b2 at *
    go_wp2_with fail
    go_loopw [7] (fun iV wr => ∃ (i : Nat) (D : Disk), iV = .int .i64 (i : Nat) ∧ i ≤ 80 ∧ Duo w wr b D b2 D (fun _ => False)) (fun iV _ => 80 - (numOf iV).toNat)
    case atStart => exact ⟨0, _, rfl, by omega, HD0.out⟩
    case round =>
      obtain ⟨i, D, rfl, hi, hduo⟩ := hrel
      have HD := Lib.hid hduo
      clear hduo HD0
      by_cases hil : i < xs.length ∧ i < 80
      · obtain ⟨hil, hi80⟩ := hil
        obtain ⟨x, hx⟩ : ∃ x, xs[i]? = some x := ⟨_, List.getElem?_eq_getElem hil⟩
        obtain ⟨k, off, Ab, cb, Al, cl, o⟩ := HX.out.one HD.out.below hx
        have HO := Lib.hid o
        obtain ⟨rfl, hkl0, c0, c1, c2, c3, c4, c5, ok, _, _⟩ := o
        have hkl : k < wr.heap.size := Nat.lt_of_lt_of_le hkl0 HD.out.below.size
        obtain ⟨w0, hw0⟩ : ∃ q, q = wr := ⟨_, rfl⟩
        subst hw0
        by_cases hbig : 4096 < x.b.length
        · clear hx ok
          go_wp2_with fail
          go_ret
          exact ⟨rfl, HD.out.below⟩
        · have hsm : x.b.length ≤ 4096 := by omega
          have HSR := Lib.hid (HO.out.b.src (Nat.le_refl w.heap.size))
          obtain ⟨Ab', cb', eq, hbc, hbm, hlies⟩ := HSR.out.lies
          cases eq
          have HLI := Lib.hid hlies
          have HOK := Lib.hid ok
          have k0 := ok.k0
          have k1 := ok.k1
          have n0 := ok.n0
          have n1 := ok.n1
          clear hx ok hlies
          go_wp2_with (at_builtin; (refine wp_appX rfl (.tmp 50) (.tmp 55) rfl w0.heap.size _ [] rfl (OwnB.new w0) Ab x.b.length cb x.b rfl (HLI.out.keep fun k hk => Below.heap_alloc _ _ _ hk) rfl hbc ?hl ?hbs ?_))
          case hl => simp; omega
          case hbs => simp
          intro v' w5 hown5 hgrow5
          have hb5 : Below w0.heap.size w0 w5 := ((Below.refl _ w0).alloc (Nat.le_refl _) _).grown hgrow5 (by simp) (fun k hk => by simp [Value.ownBlock] at hk; omega)
          have hown5 : OwnB w5 w0.heap.size v' x.b := hown5
          obtain ⟨A5, cc5, rfl, hl5, hm5, _⟩ := hown5.slice
          have d0 := (hb5.cell (p := ⟨k, off + i * 6, none⟩) hkl).trans c0
          have d1 := (hb5.cell (p := ⟨k, off + i * 6 + 1, none⟩) hkl).trans c1
          have d2 := (hb5.cell (p := ⟨k, off + i * 6 + 2, none⟩) hkl).trans c2
          have d3 := (hb5.cell (p := ⟨k, off + i * 6 + 3, none⟩) hkl).trans c3
          have d4 := (hb5.cell (p := ⟨k, off + i * 6 + 4, none⟩) hkl).trans c4
          have d5 := (hb5.cell (p := ⟨k, off + i * 6 + 5, none⟩) hkl).trans c5
          have hkl5 : k < w5.heap.size := Nat.lt_of_lt_of_le hkl hb5.size
          have HB5 := Lib.hid hb5
          have HO5 := Lib.hid hown5
          clear hb5 hown5 hgrow5 c0 c1 c2 c3 c4 c5
          have SK : Hid (∀ W : World, Below w.heap.size w W → W.heap[w5.heap.size]? = some (.cells #[.int .i64 x.kind, .string (str x.a), .string (str x.to), .slice A5 x.b.length cc5, .int .i64 x.n, .slice Al x.l.length cl] 31 (0, 0)) → OwnB W 0 (.slice A5 x.b.length cc5) x.b → (W.cell? ⟨k, off + i * 6, none⟩ = some (.int .i64 x.kind) ∧ W.cell? ⟨k, off + i * 6 + 1, none⟩ = some (.string (str x.a)) ∧ W.cell? ⟨k, off + i * 6 + 2, none⟩ = some (.string (str x.to)) ∧ W.cell? ⟨k, off + i * 6 + 3, none⟩ = some (.slice Ab x.b.length cb) ∧ W.cell? ⟨k, off + i * 6 + 4, none⟩ = some (.int .i64 x.n) ∧ W.cell? ⟨k, off + i * 6 + 5, none⟩ = some (.slice Al x.l.length cl) ∧ W.cell? ⟨w5.heap.size, 0, none⟩ = some (.int .i64 x.kind) ∧ W.cell? ⟨w5.heap.size, 1, none⟩ = some (.string (str x.a)) ∧ W.cell? ⟨w5.heap.size, 2, none⟩ = some (.string (str x.to)) ∧ W.cell? ⟨w5.heap.size, 3, none⟩ = some (.slice A5 x.b.length cc5) ∧ W.cell? ⟨w5.heap.size, 4, none⟩ = some (.int .i64 x.n) ∧ W.cell? ⟨w5.heap.size, 5, none⟩ = some (.slice Al x.l.length cl) ∧ (convert 28 9 (.slice A5 x.b.length cc5)).run Try.prog W = .ok (.string (str x.b)) W ∧ (convert 28 9 (.slice Ab x.b.length cb)).run Try.prog W = .ok (.string (str x.b)) W)) := Lib.hid fun W hb hbx how => by
            obtain ⟨_, _, c0, c1, c2, c3, c4, c5, _, hbv, _⟩ := HO.out.up HD.out.below hb
            obtain ⟨A', c', eq, _, _, hlies⟩ := (hbv.src (Nat.le_refl w.heap.size)).lies
            cases eq
            exact ⟨c0, c1, c2, c3, c4, c5, by rw [Lib.cell_of_heap hbx]; rfl, by rw [Lib.cell_of_heap hbx]; rfl, by rw [Lib.cell_of_heap hbx]; rfl, by rw [Lib.cell_of_heap hbx]; rfl, by rw [Lib.cell_of_heap hbx]; rfl, by rw [Lib.cell_of_heap hbx]; rfl, conv_own how, conv_lies hlies⟩
          obtain ⟨W6, hW6⟩ : ∃ W6, W6 = w5.alloc (.cells #[.int .i64 x.kind, .string (str x.a), .string (str x.to), .slice A5 x.b.length cc5, .int .i64 x.n, .slice Al x.l.length cl] 31) := ⟨_, rfl⟩
          have hz6 : W6.heap.size = w5.heap.size + 1 := by rw [hW6]; simp
          have hbx6 : W6.heap[w5.heap.size]? = some (.cells #[.int .i64 x.kind, .string (str x.a), .string (str x.to), .slice A5 x.b.length cc5, .int .i64 x.n, .slice Al x.l.length cl] 31 (0, 0)) := by rw [hW6]; exact heap_alloc_new w5 _
          have hb56 : Below w5.heap.size w5 W6 := by rw [hW6]; exact below_alloc _ _
          have hb06 : Below w0.heap.size w0 W6.drew := (below_into HB5.out hb56).drew
          have ho6 : OwnB W6.drew w0.heap.size (.slice A5 x.b.length cc5) x.b := (HO5.out.belows hb56).belows (Below.refl _ _).drew
          have hd6 := HD.out.hold hb06
          have HKK : Hid (∀ j, w0.heap.size ≤ j → j ≤ w5.heap.size → (fun k => False ∨ (w0.heap.size ≤ k ∧ k < W6.drew.heap.size)) j) := Lib.hid fun j h1 h2 => .inr ⟨h1, by show j < W6.heap.size; omega⟩
          generalize (fun k => False ∨ (w0.heap.size ≤ k ∧ k < W6.drew.heap.size)) = K at *
          have HD6 := Lib.hid hd6
          have C13 := Lib.hid (real_cx hd6 x (.slice A5 x.b.length cc5) (.slice Al x.l.length cl) HOK.out (ho6.src HD.out.ch.lt) (HO.out.l.keep fun k hk => hb06.block k (Nat.lt_of_lt_of_le hk HD.out.below.size)))
          have C14 := Lib.hid (fun (W : World) (D' : Disk) (h : Duo w W b D' b2 D K) => plain_cx h x (.slice Ab x.b.length cb) (.slice Al x.l.length cl) HOK.out ((HO.out.up HD.out.below h.below).b.src HD.out.ge2) (HO.out.up HD.out.below h.below).l)
          simp only [actV] at C13 C14
          have S6 := Lib.hid (SK.out W6.drew hd6.below hbx6 ho6.zero)
          have HBX6 := Lib.hid hbx6
          have HO6 := Lib.hid ho6.zero
          have HI6 : Hid (In K (.slice A5 x.b.length cc5)) := Lib.hid fun k hk => HKK.out k (ho6.lt k hk).1 (Nat.le_of_lt_succ (by have := (ho6.lt k hk).2; show k < w5.heap.size + 1; rw [← hz6]; exact this))
          have HKB := Lib.hid (HKK.out w5.heap.size HB5.out.size (Nat.le_refl _))
          generalize PlainDisk.step may D x = st at *
          obtain ⟨D2, code⟩ := st
          dsimp only at C13 C14
          have HW6 := Lib.hid hW6
          clear hW6 hz6 hbx6 hb56 hb06 ho6 hd6
          go_wp2_with fail
          rw [← HW6.out]
          clear d0 d1 d2 d3 d4 d5
          go_region_held3 (fun W => W.cell? ⟨k, off + i * 6, none⟩ = some (.int .i64 x.kind) ∧ W.cell? ⟨k, off + i * 6 + 1, none⟩ = some (.string (str x.a)) ∧ W.cell? ⟨k, off + i * 6 + 2, none⟩ = some (.string (str x.to)) ∧ W.cell? ⟨k, off + i * 6 + 3, none⟩ = some (.slice Ab x.b.length cb) ∧ W.cell? ⟨k, off + i * 6 + 4, none⟩ = some (.int .i64 x.n) ∧ W.cell? ⟨k, off + i * 6 + 5, none⟩ = some (.slice Al x.l.length cl) ∧ W.cell? ⟨w5.heap.size, 0, none⟩ = some (.int .i64 x.kind) ∧ W.cell? ⟨w5.heap.size, 1, none⟩ = some (.string (str x.a)) ∧ W.cell? ⟨w5.heap.size, 2, none⟩ = some (.string (str x.to)) ∧ W.cell? ⟨w5.heap.size, 3, none⟩ = some (.slice A5 x.b.length cc5) ∧ W.cell? ⟨w5.heap.size, 4, none⟩ = some (.int .i64 x.n) ∧ W.cell? ⟨w5.heap.size, 5, none⟩ = some (.slice Al x.l.length cl) ∧ (convert 28 9 (.slice A5 x.b.length cc5)).run Try.prog W = .ok (.string (str x.b)) W ∧ (convert 28 9 (.slice Ab x.b.length cb)).run Try.prog W = .ok (.string (str x.b)) W)
            (first | exact S6.out | exact S7.out | exact S8.out)
            (first
              | (go_at_call 13; (with_reducible refine C13.out.mono ?_); rintro e w7 ⟨rfl, hd7, hk7⟩; have HD7 := Lib.hid hd7; have BX7 : Hid (w7.heap[w5.heap.size]? = _) := Lib.hid ((hk7 _ HKB.out).trans HBX6.out); have O7 := Lib.hid (own_in HO6.out HI6.out hk7); have S7 := Lib.hid (SK.out w7 hd7.below BX7.out O7.out); clear hd7 hk7)
              | (go_at_call 14; (with_reducible refine (C14.out w7 _ HD7.out).mono ?_); rintro e w8 ⟨rfl, hd8, hk8⟩; have HD8 := Lib.hid hd8; have S8 := Lib.hid (SK.out w8 hd8.below ((hk8 _ HKB.out).trans BX7.out) (own_in O7.out HI6.out hk8)); clear hd8 hk8))
          have HF8 := Lib.hid HD8.out.free
          obtain ⟨_, _, _, a1, _, _, _, _, _, _, _⟩ := HO.out.up HD.out.below HD8.out.below
          have hkl8 : k < w8.heap.size := Nat.lt_of_lt_of_le hkl0 HD8.out.below.size
          have HRD := Lib.hid (read_all HF8.out.ch x.a HOK.out.a)
          have HRR : Hid (∀ W, Below w8.heap.size w8 W → Calls Try.prog 16 #[.pointer (some ⟨b2, 0, none⟩), .string (str x.a)] W fun e w' => ∃ A c, e = .returned (.tuple #[.slice A (rdB D2 x.a).length c, .int .i64 (rdE D2 x.a)]) ∧ OwnB w' W.heap.size (.slice A (rdB D2 x.a).length c) (rdB D2 x.a) ∧ Below W.heap.size W w') := Lib.hid (fun W hb => by
            obtain ⟨S3, h3⟩ := (HF8.out.next hb).ref
            exact refread_all h3 HF8.out.fine x.a)
          have HS1 : Hid (∀ W, Below w8.heap.size w8 W → Calls Try.prog 17 #[.pointer (some ⟨b, 0, none⟩), .string (str x.a)] W fun e w' => e = .returned (.int .i64 (sureOf D2 x.a : Nat)) ∧ w' = W) := Lib.hid (fun W hb => (sure_ch (HF8.out.next hb).ch x.a HOK.out.a).mono fun _ _ h => ⟨h.1, h.2.symm⟩)
          have HS2 : Hid (∀ W, Below w8.heap.size w8 W → Calls Try.prog 18 #[.pointer (some ⟨b2, 0, none⟩), .string (str x.a)] W fun e w' => e = .returned (.int .i64 (sureOf D2 x.a : Nat)) ∧ w' = W) := Lib.hid (fun W hb => by
            obtain ⟨S3, h3⟩ := (HF8.out.next hb).ref
            exact (refsure_is h3 x.a).mono fun _ _ h => ⟨h.1, h.2.symm⟩)
          have HS3 : Hid (∀ W, Below w8.heap.size w8 W → Calls Try.prog 19 #[.pointer (some ⟨b, 0, none⟩)] W fun e w' => e = .returned (.bool D2.gone) ∧ w' = W) := Lib.hid (fun W hb => (down_ch (HF8.out.next hb).ch).mono fun _ _ h => ⟨h.1, h.2.symm⟩)
          have HC2 : Hid (w8.cell? ⟨b2, 2, none⟩ = some (.bool D2.gone) ∧ b2 < w8.heap.size) := Lib.hid (by obtain ⟨S3, h3⟩ := HF8.out.ref; exact h3.cell2)
          generalize rdB D2 x.a = rb at *
          generalize rdE D2 x.a = re at *
          generalize sureOf D2 x.a = sr at *
          clear C13 C14 SK
          go_wp2_with fail
          refine HRD.out.mono ?_
          rintro e w9 ⟨A9, c9, rfl, ho9, hb9⟩
          have HB9 := Lib.hid hb9
          have hrb : rb.length ≤ 9223372036854775807 := by
            obtain ⟨_, c', _, h1, h2, _⟩ := ho9.slice
            omega
          have a19 := (hb9.cell (p := ⟨k, off + i * 6 + 1, none⟩) hkl8).trans a1
          clear hb9 HRD
          go_wp2_with fail
          refine (HRR.out _ HB9.out).mono ?_
          rintro e w10 ⟨A10, c10, rfl, ho10, hb10⟩
          have HB10 := Lib.hid (below_into HB9.out hb10).drew
          have a110 : w10.drew.cell? ⟨k, off + i * 6 + 1, none⟩ = some (.string (str x.a)) := (HB10.out.cell hkl8).trans a1
          have ho9d := (ho9.belows hb10).belows (Below.refl _ _).drew
          have ho10d := ho10.belows (Below.refl _ _).drew
          have hcs1 := conv_own ho9d
          have hcs2 := conv_own ho10d
          have g2 : w10.drew.cell? ⟨b2, 2, none⟩ = some (.bool D2.gone) := (HB10.out.cell HC2.out.2).trans HC2.out.1
          have HQ1 := Lib.hid (HS1.out w10.drew HB10.out)
          have HQ2 := Lib.hid (HS2.out w10.drew HB10.out)
          have HQ3 := Lib.hid (HS3.out w10.drew HB10.out)
          have HU := Lib.hid ho9d.ownU
          have HG := Lib.hid (fun j hj => (ho9d.lt j hj).1)
          clear ho9 ho10 hb10 ho9d ho10d HRR HS1 HS2 HS3 a19 a1
          go_wp2_with fail
          refine wp_region_still_lit (by kernel_rfl) (by kernel_rfl) ?_
          change wpStill _ _ (World.drew _) _ _ _
          repeat still_step
          still_call HQ1.out
          repeat still_step
          still_call HQ2.out
          repeat still_step
          still_call HQ3.out
          repeat still_step
          refine wpStill_nil ?_
          change Exit.then _ _ _ _ (World.drew _)
          clear hcs1 hcs2 g2 a110
          go_wp2_with fail
          go_loopw [142] (fun jV wq => ∃ (kk : Nat), jV = .int .i64 (kk : Nat) ∧ kk ≤ rb.length ∧ Below w8.heap.size w8 wq ∧ OwnU wq (.slice A9 rb.length c9) rb.length) (fun jV _ => rb.length - (numOf jV).toNat)
          case atStart => exact ⟨0, rfl, by omega, HB10.out, HU.out⟩
          case round =>
            obtain ⟨kk, rfl, hkk, hbq, huq⟩ := hrel
            have HBQ := Lib.hid hbq
            have HUQ := Lib.hid huq
            clear hbq huq
            by_cases hkr : kk < rb.length
            · obtain ⟨gz, z, e, hcz, hfz, hst⟩ := HUQ.out.at hkr
              subst e
              have HST := Lib.hid hst
              have HGZ := Lib.hid (HG.out gz rfl)
              clear hst
              go_wp2_with fail
              go_roundw
              case rel => exact ⟨kk + 1, rfl, by omega, HBQ.out.setCell HGZ.out _, HST.out _⟩
              case measure => simp [numOf]; omega
            · go_wp2_with fail
              go_roundw
              case rel => exact ⟨i + 1, D2, rfl, by omega, HF8.out.next HBQ.out⟩
              case measure => simp [numOf]; omega
      · have hil2 : (xs.length : Int) ≤ (i : Int) ∨ ((i : Int) < (xs.length : Int) ∧ (80 : Int) ≤ (i : Int)) := by omega
        have HSM := Lib.hid (same_any w _ b b2 D _ HD.out)
        rcases hil2 with h1 | ⟨h1, h2⟩
        all_goals
          go_wp2_with fail
          refine HSM.out.mono ?_
          rintro e w4 ⟨rfl, hb4⟩
          have HB4 := Lib.hid (below_into HD.out.below hb4)
          clear hb4
          go_wp2_with fail
          go_ret
          exact ⟨rfl, HB4.out⟩
end Go.Proofs.Ytggndipfholllaa
