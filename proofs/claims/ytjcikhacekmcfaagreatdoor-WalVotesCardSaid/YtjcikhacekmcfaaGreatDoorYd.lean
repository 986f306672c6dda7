import Derived.Test.YtjcikhacekmcfaaGreatDoorYb
import Derived.Test.YtjcikhacekmcfaaGreatDoorYc
namespace Go.Proofs.YtjcikhacekmcfaaGreatDoor
open Go.RowKit
open PlainDisk (File Disk)
open PWal (St Ent Chg)
set_option linter.unusedVariables false
set_option maxRecDepth 20000
def IntsAt (w : World) (A : Option Addr) (k : IntKind) (l : List Int) : Prop := l ≠ [] → ∃ g off, A = some ⟨g, off, none⟩ ∧ g < w.heap.size ∧ ∀ (i : Nat) (x : Int), l[i]? = some x → w.cell? ⟨g, off + i, none⟩ = some (.int k x)
theorem IntsAt.keep {w w' : World} {A : Option Addr} {k : IntKind} {l : List Int} (h : IntsAt w A k l) (hb : Below w.heap.size w w') : IntsAt w' A k l := fun hne => by
  obtain ⟨g, off, h1, h2, h3⟩ := h hne
  exact ⟨g, off, h1, Nat.lt_of_lt_of_le h2 hb.size, fun i x hx => (World.cell?_of_block (hb.block g h2)).trans (h3 i x hx)⟩
theorem IntsAt.one {w : World} {A : Option Addr} {k : IntKind} {l : List Int} (h : IntsAt w A k l) {i : Nat} {x : Int} (hx : l[i]? = some x) : ∃ g off, A = some ⟨g, off, none⟩ ∧ g < w.heap.size ∧ w.cell? ⟨g, off + i, none⟩ = some (.int k x) := by
  obtain ⟨g, off, h1, h2, h3⟩ := h (fun e => by rw [e] at hx; cases hx)
  exact ⟨g, off, h1, h2, h3 i x hx⟩
def F0 : Nat → Prop := fun _ => False
def VRel (b : Nat) (w : World) (uw ut uv ui : Value) (wr : World) : Prop :=
  ∃ (i bw : Nat) (D : Disk) (s : St) (ps : List (List UInt8)), uw = .pointer (some ⟨bw, 0, none⟩) ∧ ut = .int .i64 s.term ∧ uv = .int .i64 s.vote ∧ ui = .int .i64 i ∧ i ≤ 200 ∧ WCh F0 w wr bw b D s ∧ VInv D s ps ∧ 0 ≤ s.term ∧ s.term ≤ 4611686018427387904 ∧ -1 ≤ s.vote ∧ s.vote ≤ 6
theorem inv_log {D : Disk} {s : St} {ps : List (List UInt8)} (h : VInv D s ps) : s.log = [] := by
  rw [← h.st, (votes_same ps St.new).2.2.2]; rfl
/-- a vote that may be, and one that may not -/
theorem vote_may {w wi : World} {bw b : Nat} {D : Disk} {s : St} {ps : List (List UInt8)} (h : WCh F0 w wi bw b D s) (hv : VInv D s ps) (s0 : 0 ≤ s.term) (t v : Int) (h1 : s.term ≤ t) (h2 : t ≤ 4611686018427387904) (h3 : -1 ≤ v) (h4 : v < 7) :
    Calls Tryz.prog 34 #[.pointer (some ⟨bw, 0, none⟩), .int .i64 t, .int .i64 v] wi fun e w' => ∃ D' ps', e = .returned (.int .i64 0) ∧ WCh F0 w w' bw b D' { s with term := t, vote := v } ∧ VInv D' { s with term := t, vote := v } ps' := by
  obtain ⟨D', ps', e1, e2⟩ := v_vote hv t v (by omega) h1 h2 (by unfold PWal.mayVote; simp; omega)
  refine (vote_ch h t v ⟨by omega, by omega⟩ ⟨by omega, by omega⟩).mono fun e w' hh => ?_
  rw [e1] at hh
  exact ⟨D', ps', hh.1, hh.2.1, e2⟩
theorem vote_maynot {w wi : World} {bw b : Nat} {D : Disk} {s : St} (h : WCh F0 w wi bw b D s) (t v : Int) (ht : Wr.InR t) (hv : Wr.InR v) (hn : t < s.term ∨ 4611686018427387904 < t ∨ v < -1 ∨ 7 ≤ v) :
    Calls Tryz.prog 34 #[.pointer (some ⟨bw, 0, none⟩), .int .i64 t, .int .i64 v] wi fun e w' => e = .returned (.int .i64 1) ∧ WCh F0 w w' bw b D s := by
  refine (vote_ch h t v ht hv).mono fun e w' hh => ?_
  rw [vote_no (by rcases hn with q | q | q | q; exact .inl q; exact .inr (.inl q); exact .inr (.inr (by unfold PWal.mayVote; simp; omega)); exact .inr (.inr (by unfold PWal.mayVote; simp; omega)))] at hh
  exact ⟨hh.1, hh.2.1⟩
theorem state_v {w wi : World} {bw b : Nat} {D : Disk} {s : St} (h : WCh F0 w wi bw b D s) (hl : s.log = []) (t v : Int) (ht : s.term = t) (hv : s.vote = v) : Calls Tryz.prog 24 #[.pointer (some ⟨bw, 0, none⟩)] wi fun e w' => ∃ (i x : Int) (z : ByteArray) (A : Option Addr) (c : Nat), e = .returned (.agg #[.int .i64 t, .int .i64 v, .int .i64 i, .int .i64 x, .string z, .slice A 0 c]) ∧ WCh F0 w w' bw b D s := by
  refine (state_ch h).mono ?_
  rintro e w' ⟨A, c, rfl, ho, hb⟩
  refine ⟨s.sidx, s.sterm, str s.sdata, A, c, ?_, (h.next hb).1⟩
  unfold stV
  rw [hl, ht, hv]; rfl
theorem crash_v {w wi : World} {bw b : Nat} {D : Disk} {s : St} {ps : List (List UInt8)} (h : WCh F0 w wi bw b D s) (hv : VInv D s ps) : Calls Tryz.prog 15 #[.pointer (some ⟨b, 0, none⟩), .slice none 0 0] wi fun e w' => e = .returned (.tuple #[]) ∧ DCh F0 w w' b D := by
  refine (crash_nil h.dch).mono fun e w' hh => ?_
  rw [v_crash hv] at hh
  exact ⟨hh.1, hh.2.1⟩
theorem open_v {w wi : World} {b : Nat} {D : Disk} {s : St} {ps : List (List UInt8)} (h : DCh F0 w wi b D) (hv : VInv D s ps) : Calls Tryz.prog 12 #[.pointer (some ⟨b, 0, none⟩)] wi fun e w' => ∃ bw, e = .returned (.tuple #[.pointer (some ⟨bw, 0, none⟩), .int .i64 0]) ∧ WCh F0 w w' bw b D s :=
  (open_some h (v_open hv)).mono fun e w' ⟨bw, e1, e2, _⟩ => ⟨bw, e1, e2⟩
set_option maxHeartbeats 8000000 in
theorem law_votes (A : Option Addr) (n c : Nat) (ts : List Int) (A2 : Option Addr) (n2 c2 : Nat) (vs : List Int) (w : World) (hg : Glob w) (hn : n = ts.length) (hn2 : n2 = vs.length) (hA : IntsAt w A .i64 ts) (hA2 : IntsAt w A2 .i8 vs)
    (hr : ∀ x ∈ ts, Wr.InR x) (hr2 : ∀ x ∈ vs, -128 ≤ x ∧ x ≤ 127) (hl : n ≤ 140737488351232) (hl2 : n2 ≤ 140737488351232) :
    Calls Tryz.prog 7 #[.slice A n c, .slice A2 n2 c2] w (RetBelow (.bool true) w) := by
  have HAW := Lib.hid (awake_w w hg)
  have HN := Lib.hid (fun w1 (h : Below w.heap.size w w1) => new_dch 65536 w w1 (by omega) hg h)
  have HA := Lib.hid hA
  have HA2 := Lib.hid hA2
  have HR := Lib.hid hr
  have HR2 := Lib.hid hr2
  have HN1 := Lib.hid hn
  have HN2 := Lib.hid hn2
  clear hA hA2 hr hr2 hn hn2 hg
  go_enter Tryz.func7, Tryz.ntmps7
  go_wp2_with fail
  refine HAW.out.mono ?_
  rintro e w1 ⟨rfl, h⟩
  have B1 := Lib.hid h
  clear h
  go_wp2_with fail
  refine (HN.out _ B1.out).mono ?_
  rintro e w2 ⟨b, rfl, h⟩
  have D2 := Lib.hid h
  clear h
  go_wp2_with fail
  refine (open_v (s := St.new) D2.out v_start).mono ?_
  rintro e w3 ⟨bw, rfl, h⟩
  have W3 := Lib.hid h
  clear h
  go_wp2_with fail
  go_loopw [6, 8, 9, 10] (fun uw ut uv ui wr => VRel b w uw ut uv ui wr) (fun _ _ _ ui _ => 200 - (numOf ui).toNat)
  case atStart => exact ⟨0, bw, _, St.new, [], rfl, rfl, rfl, rfl, by omega, W3.out, v_start, by decide, by decide, by decide, by decide⟩
  case round =>
    obtain ⟨i, bv, D, s, ps, rfl, rfl, rfl, rfl, hi, hw, hv, s0, s1, s2, s3⟩ := hrel
    have HWr := Lib.hid hw
    have HV := Lib.hid hv
    clear hw hv
    by_cases hil : i < n ∧ i < 200
    · obtain ⟨hin, hi2⟩ := hil
      have hin2 : i < ts.length := by rw [← HN1.out]; exact hin
      obtain ⟨t, ht⟩ : ∃ t, ts[i]? = some t := ⟨_, List.getElem?_eq_getElem hin2⟩
      have HIN := Lib.hid (HR.out t (List.mem_of_getElem? ht))
      obtain ⟨g, off, rfl, hgl, hcell⟩ := HA.out.one ht
      have HK := Lib.hid (fun V (h : Below w.heap.size w V) => (World.cell?_of_block (h.block g hgl)).trans hcell)
      have k0 := HK.out wr HWr.out.below
      have hi3 : (i : Int) < n := by omega
      have hi4 : (i : Int) < 200 := by omega
      clear hcell ht hin2 hin hgl
      by_cases hvs : vs = []
      · have hz : n2 = 0 := by rw [HN2.out, hvs]; rfl
        subst hz
        go_wp2_with fail
        by_cases hm : s.term ≤ t ∧ t ≤ 4611686018427387904 ∧ -1 ≤ (-1) ∧ (-1) < 7
        · obtain ⟨m1, m2, m3, m4⟩ := hm
          refine (vote_may HWr.out HV.out s0 t (-1) m1 m2 m3 m4).mono ?_
          rintro e w4 ⟨D', ps', rfl, h, hv'⟩
          have W4 := Lib.hid h
          have HV' := Lib.hid hv'
          clear h hv' k0
          have k0 := HK.out w4 W4.out.below
          go_wp2_with fail
          refine (state_v W4.out (inv_log HV'.out) t (-1) rfl rfl).mono ?_
          rintro e w5 ⟨i5, x5, z5, A5, c5, rfl, h⟩
          have W5 := Lib.hid h
          clear h
          by_cases h7 : i % 7 = 3
          · have h7' : ((i : Int) % 7) = 3 := by omega
            clear h7
            go_wp2_with fail
            refine (crash_v (W5.out.next (bel_alloc _ _)).1 HV'.out).mono ?_
            rintro e w6 ⟨rfl, h⟩
            have D6 := Lib.hid h
            clear h
            go_wp2_with fail
            refine (open_v D6.out HV'.out).mono ?_
            rintro e w7 ⟨bx, rfl, h⟩
            have W7 := Lib.hid h
            clear h
            go_wp2_with fail
            go_roundw
            case rel => exact ⟨i + 1, bx, _, _, _, rfl, rfl, rfl, by go_num, by omega, W7.out, HV'.out, by first | assumption | (simp only; omega), by first | assumption | (simp only; omega), by first | assumption | (simp only; omega), by first | assumption | (simp only; omega)⟩
            case measure => simp [numOf]; omega
          · have h7' : ¬ ((i : Int) % 7) = 3 := by omega
            clear h7
            go_wp2_with fail
            go_roundw
            case rel => exact ⟨i + 1, _, _, _, _, rfl, rfl, rfl, by go_num, by omega, (W5.out.next (bel_alloc _ _)).1, HV'.out, by first | assumption | (simp only; omega), by first | assumption | (simp only; omega), by first | assumption | (simp only; omega), by first | assumption | (simp only; omega)⟩
            case measure => simp [numOf]; omega

        · have hn : t < s.term ∨ (s.term ≤ t ∧ 4611686018427387904 < t) ∨ (s.term ≤ t ∧ t ≤ 4611686018427387904 ∧ (-1) < -1) ∨ (s.term ≤ t ∧ t ≤ 4611686018427387904 ∧ -1 ≤ (-1) ∧ 7 ≤ (-1)) := by omega
          clear hm
          refine (vote_maynot HWr.out t (-1) HIN.out ⟨by omega, by omega⟩ (by omega)).mono ?_
          rintro e w4 ⟨rfl, h⟩
          have W4 := Lib.hid h
          clear h k0
          have k0 := HK.out w4 W4.out.below
          rcases hn with m1 | ⟨m1, m2⟩ | ⟨m1, m2, m3⟩ | ⟨m1, m2, m3, m4⟩
          · go_wp2_with fail
            refine (state_v W4.out (inv_log HV.out) s.term s.vote rfl rfl).mono ?_
            rintro e w5 ⟨i5, x5, z5, A5, c5, rfl, h⟩
            have W5 := Lib.hid h
            clear h
            by_cases h7 : i % 7 = 3
            · have h7' : ((i : Int) % 7) = 3 := by omega
              clear h7
              go_wp2_with fail
              refine (crash_v (W5.out.next (bel_alloc _ _)).1 HV.out).mono ?_
              rintro e w6 ⟨rfl, h⟩
              have D6 := Lib.hid h
              clear h
              go_wp2_with fail
              refine (open_v D6.out HV.out).mono ?_
              rintro e w7 ⟨bx, rfl, h⟩
              have W7 := Lib.hid h
              clear h
              go_wp2_with fail
              go_roundw
              case rel => exact ⟨i + 1, bx, _, _, _, rfl, rfl, rfl, by go_num, by omega, W7.out, HV.out, by first | assumption | (simp only; omega), by first | assumption | (simp only; omega), by first | assumption | (simp only; omega), by first | assumption | (simp only; omega)⟩
              case measure => simp [numOf]; omega
            · have h7' : ¬ ((i : Int) % 7) = 3 := by omega
              clear h7
              go_wp2_with fail
              go_roundw
              case rel => exact ⟨i + 1, _, _, _, _, rfl, rfl, rfl, by go_num, by omega, (W5.out.next (bel_alloc _ _)).1, HV.out, by first | assumption | (simp only; omega), by first | assumption | (simp only; omega), by first | assumption | (simp only; omega), by first | assumption | (simp only; omega)⟩
              case measure => simp [numOf]; omega

          · go_wp2_with fail
            refine (state_v W4.out (inv_log HV.out) s.term s.vote rfl rfl).mono ?_
            rintro e w5 ⟨i5, x5, z5, A5, c5, rfl, h⟩
            have W5 := Lib.hid h
            clear h
            by_cases h7 : i % 7 = 3
            · have h7' : ((i : Int) % 7) = 3 := by omega
              clear h7
              go_wp2_with fail
              refine (crash_v (W5.out.next (bel_alloc _ _)).1 HV.out).mono ?_
              rintro e w6 ⟨rfl, h⟩
              have D6 := Lib.hid h
              clear h
              go_wp2_with fail
              refine (open_v D6.out HV.out).mono ?_
              rintro e w7 ⟨bx, rfl, h⟩
              have W7 := Lib.hid h
              clear h
              go_wp2_with fail
              go_roundw
              case rel => exact ⟨i + 1, bx, _, _, _, rfl, rfl, rfl, by go_num, by omega, W7.out, HV.out, by first | assumption | (simp only; omega), by first | assumption | (simp only; omega), by first | assumption | (simp only; omega), by first | assumption | (simp only; omega)⟩
              case measure => simp [numOf]; omega
            · have h7' : ¬ ((i : Int) % 7) = 3 := by omega
              clear h7
              go_wp2_with fail
              go_roundw
              case rel => exact ⟨i + 1, _, _, _, _, rfl, rfl, rfl, by go_num, by omega, (W5.out.next (bel_alloc _ _)).1, HV.out, by first | assumption | (simp only; omega), by first | assumption | (simp only; omega), by first | assumption | (simp only; omega), by first | assumption | (simp only; omega)⟩
              case measure => simp [numOf]; omega

          · exfalso; omega
          · exfalso; omega

      · have hz : 0 < vs.length := by
          rcases Nat.eq_zero_or_pos vs.length with q | q
          · exact absurd (List.eq_nil_of_length_eq_zero q) hvs
          · exact q
        have hz2 : 0 < n2 := by rw [HN2.out]; exact hz
        have hj : i % n2 < vs.length := by rw [← HN2.out]; exact Nat.mod_lt _ hz2
        have hj2 : i % n2 < n2 := Nat.mod_lt _ hz2
        obtain ⟨y, hy⟩ : ∃ y, vs[i % n2]? = some y := ⟨_, List.getElem?_eq_getElem hj⟩
        obtain ⟨y1, y2⟩ := HR2.out y (List.mem_of_getElem? hy)
        obtain ⟨g2, off2, rfl, hgl2, hcell2⟩ := HA2.out.one hy
        have k2 := (World.cell?_of_block (HWr.out.below.block g2 hgl2)).trans hcell2
        have hz3 : (0 : Int) < n2 := by omega
        clear hcell2 hy hj hz hvs hgl2
        go_wp2_with fail
        clear k2
        by_cases hm : s.term ≤ t ∧ t ≤ 4611686018427387904 ∧ -1 ≤ y ∧ y < 7
        · obtain ⟨m1, m2, m3, m4⟩ := hm
          refine (vote_may HWr.out HV.out s0 t y m1 m2 m3 m4).mono ?_
          rintro e w4 ⟨D', ps', rfl, h, hv'⟩
          have W4 := Lib.hid h
          have HV' := Lib.hid hv'
          clear h hv' k0
          have k0 := HK.out w4 W4.out.below
          go_wp2_with fail
          refine (state_v W4.out (inv_log HV'.out) t y rfl rfl).mono ?_
          rintro e w5 ⟨i5, x5, z5, A5, c5, rfl, h⟩
          have W5 := Lib.hid h
          clear h
          by_cases h7 : i % 7 = 3
          · have h7' : ((i : Int) % 7) = 3 := by omega
            clear h7
            go_wp2_with fail
            refine (crash_v (W5.out.next (bel_alloc _ _)).1 HV'.out).mono ?_
            rintro e w6 ⟨rfl, h⟩
            have D6 := Lib.hid h
            clear h
            go_wp2_with fail
            refine (open_v D6.out HV'.out).mono ?_
            rintro e w7 ⟨bx, rfl, h⟩
            have W7 := Lib.hid h
            clear h
            go_wp2_with fail
            go_roundw
            case rel => exact ⟨i + 1, bx, _, _, _, rfl, rfl, rfl, by go_num, by omega, W7.out, HV'.out, by first | assumption | (simp only; omega), by first | assumption | (simp only; omega), by first | assumption | (simp only; omega), by first | assumption | (simp only; omega)⟩
            case measure => simp [numOf]; omega
          · have h7' : ¬ ((i : Int) % 7) = 3 := by omega
            clear h7
            go_wp2_with fail
            go_roundw
            case rel => exact ⟨i + 1, _, _, _, _, rfl, rfl, rfl, by go_num, by omega, (W5.out.next (bel_alloc _ _)).1, HV'.out, by first | assumption | (simp only; omega), by first | assumption | (simp only; omega), by first | assumption | (simp only; omega), by first | assumption | (simp only; omega)⟩
            case measure => simp [numOf]; omega

        · have hn : t < s.term ∨ (s.term ≤ t ∧ 4611686018427387904 < t) ∨ (s.term ≤ t ∧ t ≤ 4611686018427387904 ∧ y < -1) ∨ (s.term ≤ t ∧ t ≤ 4611686018427387904 ∧ -1 ≤ y ∧ 7 ≤ y) := by omega
          clear hm
          refine (vote_maynot HWr.out t y HIN.out ⟨by omega, by omega⟩ (by omega)).mono ?_
          rintro e w4 ⟨rfl, h⟩
          have W4 := Lib.hid h
          clear h k0
          have k0 := HK.out w4 W4.out.below
          rcases hn with m1 | ⟨m1, m2⟩ | ⟨m1, m2, m3⟩ | ⟨m1, m2, m3, m4⟩
          · go_wp2_with fail
            refine (state_v W4.out (inv_log HV.out) s.term s.vote rfl rfl).mono ?_
            rintro e w5 ⟨i5, x5, z5, A5, c5, rfl, h⟩
            have W5 := Lib.hid h
            clear h
            by_cases h7 : i % 7 = 3
            · have h7' : ((i : Int) % 7) = 3 := by omega
              clear h7
              go_wp2_with fail
              refine (crash_v (W5.out.next (bel_alloc _ _)).1 HV.out).mono ?_
              rintro e w6 ⟨rfl, h⟩
              have D6 := Lib.hid h
              clear h
              go_wp2_with fail
              refine (open_v D6.out HV.out).mono ?_
              rintro e w7 ⟨bx, rfl, h⟩
              have W7 := Lib.hid h
              clear h
              go_wp2_with fail
              go_roundw
              case rel => exact ⟨i + 1, bx, _, _, _, rfl, rfl, rfl, by go_num, by omega, W7.out, HV.out, by first | assumption | (simp only; omega), by first | assumption | (simp only; omega), by first | assumption | (simp only; omega), by first | assumption | (simp only; omega)⟩
              case measure => simp [numOf]; omega
            · have h7' : ¬ ((i : Int) % 7) = 3 := by omega
              clear h7
              go_wp2_with fail
              go_roundw
              case rel => exact ⟨i + 1, _, _, _, _, rfl, rfl, rfl, by go_num, by omega, (W5.out.next (bel_alloc _ _)).1, HV.out, by first | assumption | (simp only; omega), by first | assumption | (simp only; omega), by first | assumption | (simp only; omega), by first | assumption | (simp only; omega)⟩
              case measure => simp [numOf]; omega

          · go_wp2_with fail
            refine (state_v W4.out (inv_log HV.out) s.term s.vote rfl rfl).mono ?_
            rintro e w5 ⟨i5, x5, z5, A5, c5, rfl, h⟩
            have W5 := Lib.hid h
            clear h
            by_cases h7 : i % 7 = 3
            · have h7' : ((i : Int) % 7) = 3 := by omega
              clear h7
              go_wp2_with fail
              refine (crash_v (W5.out.next (bel_alloc _ _)).1 HV.out).mono ?_
              rintro e w6 ⟨rfl, h⟩
              have D6 := Lib.hid h
              clear h
              go_wp2_with fail
              refine (open_v D6.out HV.out).mono ?_
              rintro e w7 ⟨bx, rfl, h⟩
              have W7 := Lib.hid h
              clear h
              go_wp2_with fail
              go_roundw
              case rel => exact ⟨i + 1, bx, _, _, _, rfl, rfl, rfl, by go_num, by omega, W7.out, HV.out, by first | assumption | (simp only; omega), by first | assumption | (simp only; omega), by first | assumption | (simp only; omega), by first | assumption | (simp only; omega)⟩
              case measure => simp [numOf]; omega
            · have h7' : ¬ ((i : Int) % 7) = 3 := by omega
              clear h7
              go_wp2_with fail
              go_roundw
              case rel => exact ⟨i + 1, _, _, _, _, rfl, rfl, rfl, by go_num, by omega, (W5.out.next (bel_alloc _ _)).1, HV.out, by first | assumption | (simp only; omega), by first | assumption | (simp only; omega), by first | assumption | (simp only; omega), by first | assumption | (simp only; omega)⟩
              case measure => simp [numOf]; omega

          · go_wp2_with fail
            refine (state_v W4.out (inv_log HV.out) s.term s.vote rfl rfl).mono ?_
            rintro e w5 ⟨i5, x5, z5, A5, c5, rfl, h⟩
            have W5 := Lib.hid h
            clear h
            by_cases h7 : i % 7 = 3
            · have h7' : ((i : Int) % 7) = 3 := by omega
              clear h7
              go_wp2_with fail
              refine (crash_v (W5.out.next (bel_alloc _ _)).1 HV.out).mono ?_
              rintro e w6 ⟨rfl, h⟩
              have D6 := Lib.hid h
              clear h
              go_wp2_with fail
              refine (open_v D6.out HV.out).mono ?_
              rintro e w7 ⟨bx, rfl, h⟩
              have W7 := Lib.hid h
              clear h
              go_wp2_with fail
              go_roundw
              case rel => exact ⟨i + 1, bx, _, _, _, rfl, rfl, rfl, by go_num, by omega, W7.out, HV.out, by first | assumption | (simp only; omega), by first | assumption | (simp only; omega), by first | assumption | (simp only; omega), by first | assumption | (simp only; omega)⟩
              case measure => simp [numOf]; omega
            · have h7' : ¬ ((i : Int) % 7) = 3 := by omega
              clear h7
              go_wp2_with fail
              go_roundw
              case rel => exact ⟨i + 1, _, _, _, _, rfl, rfl, rfl, by go_num, by omega, (W5.out.next (bel_alloc _ _)).1, HV.out, by first | assumption | (simp only; omega), by first | assumption | (simp only; omega), by first | assumption | (simp only; omega), by first | assumption | (simp only; omega)⟩
              case measure => simp [numOf]; omega

          · go_wp2_with fail
            refine (state_v W4.out (inv_log HV.out) s.term s.vote rfl rfl).mono ?_
            rintro e w5 ⟨i5, x5, z5, A5, c5, rfl, h⟩
            have W5 := Lib.hid h
            clear h
            by_cases h7 : i % 7 = 3
            · have h7' : ((i : Int) % 7) = 3 := by omega
              clear h7
              go_wp2_with fail
              refine (crash_v (W5.out.next (bel_alloc _ _)).1 HV.out).mono ?_
              rintro e w6 ⟨rfl, h⟩
              have D6 := Lib.hid h
              clear h
              go_wp2_with fail
              refine (open_v D6.out HV.out).mono ?_
              rintro e w7 ⟨bx, rfl, h⟩
              have W7 := Lib.hid h
              clear h
              go_wp2_with fail
              go_roundw
              case rel => exact ⟨i + 1, bx, _, _, _, rfl, rfl, rfl, by go_num, by omega, W7.out, HV.out, by first | assumption | (simp only; omega), by first | assumption | (simp only; omega), by first | assumption | (simp only; omega), by first | assumption | (simp only; omega)⟩
              case measure => simp [numOf]; omega
            · have h7' : ¬ ((i : Int) % 7) = 3 := by omega
              clear h7
              go_wp2_with fail
              go_roundw
              case rel => exact ⟨i + 1, _, _, _, _, rfl, rfl, rfl, by go_num, by omega, (W5.out.next (bel_alloc _ _)).1, HV.out, by first | assumption | (simp only; omega), by first | assumption | (simp only; omega), by first | assumption | (simp only; omega), by first | assumption | (simp only; omega)⟩
              case measure => simp [numOf]; omega


    · have hil2 : ¬ ((i : Int) < n) ∨ ((i : Int) < n ∧ ¬ (i : Int) < 200) := by omega
      rcases hil2 with q | ⟨q, q2⟩
      all_goals
        go_wp2_with fail
        refine (state_v HWr.out (inv_log HV.out) s.term s.vote rfl rfl).mono ?_
        rintro e w5 ⟨i5, x5, z5, A5, c5, rfl, h⟩
        have W5 := Lib.hid h
        clear h
        go_wp2_with fail
        go_ret
        exact ⟨rfl, W5.out.below.alloc W5.out.below.size _⟩
end Go.Proofs.YtjcikhacekmcfaaGreatDoor
