import Derived.Test.YtipclhklkngamaaNo
namespace Go.Proofs.Ytipclhklkngamaa
open Go.RowKit
set_option linter.unusedVariables false

def S0 : List Int := Net.new.s
def Sp (s : Int) : List Int := (List.range 32).map (Net.bit s)
set_option maxHeartbeats 8000000 in
set_option maxRecDepth 100000 in
theorem law_sides (v : Value) (xs : List Let) (s : Int) (w : World) (hx : LetsAt w v xs w.heap.size) (s0 : -9223372036854775808 ≤ s) (s1 : s ≤ 9223372036854775807) :
    Calls Try.prog 5 #[v, .int .i64 s] w (RetBelow (.bool true) w) := by
  obtain ⟨A, c, rfl, l1, l2⟩ := hx.form
  have HX := Lib.hid hx
  have HAW := Lib.hid (awake_any w)
  clear hx
  go_enter Try.func5, Try.ntmps5
  go_wp2_with fail
  refine HAW.out.mono ?_
  rintro e w1 ⟨rfl, hb1⟩
  have HB1 := Lib.hid hb1
  clear hb1
  go_wp2_with fail
  have C := nc_new (W := w) HB1.out
  refine C.mono ?_
  clear C
  rintro e w2 ⟨rfl, hn, hb2⟩
  have HN := Lib.hid (NG.start hn)
  clear hn hb2
  generalize w1.heap.size = b at *
  go_wp2_with fail
  generalize w2.heap.size = g0 at *
  generalize w2.alloc (.cells #[] 32) = w3 at *
  go_loopw [6, 7] (fun gV iV wr => ∃ (i : Nat) (q : List Let) (gv : Value), gv = gV ∧ iV = .int .i64 (i : Nat) ∧ i ≤ 100 ∧ q.length ≤ i ∧ Hid (∀ l ∈ q, Net.okL l = true) ∧ Hid (NG w wr b ⟨q, S0⟩ gv q)) (fun _ iV _ => 100 - (numOf iV).toNat)
  case atStart => exact ⟨0, [], _, rfl, rfl, by omega, by simp, Lib.hid (fun l h => by cases h), HN⟩
  case round =>
    obtain ⟨i, q, gv, rfl, rfl, hi, hq, hqo, hn⟩ := hrel
    clear HN
    by_cases hil : i < xs.length ∧ i < 100
    · obtain ⟨hil, hi5⟩ := hil
      obtain ⟨y, hy⟩ : ∃ y, xs[i]? = some y := ⟨_, List.getElem?_eq_getElem hil⟩
      obtain ⟨k, off, rfl, hk, c0, c1, c2, hok⟩ := HX.out.one hn.out.below hy
      have hlen : (i : Int) < (xs.length : Int) := by omega
      have hi100 : (i : Int) < 100 := by omega
      have HOK := Lib.hid hok
      have HCL : Hid (∀ W' : World, Below w.heap.size w W' → W'.cell? ⟨k, off + i * 3, none⟩ = some (.int .i64 y.f) ∧ W'.cell? ⟨k, off + i * 3 + 1, none⟩ = some (.int .i64 y.t) ∧ W'.cell? ⟨k, off + i * 3 + 2, none⟩ = some (.string y.b)) := Lib.hid fun W' hb' => by
        have e := (hb'.block k hk).trans (hn.out.below.block k hk).symm
        exact ⟨(World.cell?_of_block e).trans c0, (World.cell?_of_block e).trans c1, (World.cell?_of_block e).trans c2⟩
      clear hy hok
      cases ho : Net.okL y with
      | false =>
        have C := ng_send hn.out y HOK.out
        rw [Net.send_no ho] at C
        have HC := Lib.hid C
        unfold letV at HC
        clear C ho
        go_wp2_with fail
        refine HC.out.mono ?_
        rintro e w4 ⟨rfl, h4⟩
        have HN4 := Lib.hid h4
        clear h4 HC
        go_wp2_with fail
        go_roundw
        case rel => exact ⟨i + 1, q, _, rfl, rfl, by omega, by omega, hqo, HN4⟩
        case measure => simp [numOf]; omega
      | true =>
        have C := ng_send hn.out y HOK.out
        rw [Net.send_yes ho (by show q.length < 400; omega)] at C
        have HC := Lib.hid C
        unfold letV at HC
        have HQO : Hid (∀ l ∈ q ++ [y], Net.okL l = true) := Lib.hid fun l hl => by
          rcases List.mem_append.1 hl with h | h
          · exact hqo.out l h
          · rw [List.mem_singleton.1 h]; exact ho
        have HQB := Lib.hid (show q.length + 1 ≤ 1000000 by omega)
        clear C ho
        go_wp2_with fail
        refine HC.out.mono ?_
        rintro e w4 ⟨rfl, h4⟩
        have HN4 := Lib.hid h4
        obtain ⟨d0, d1, d2⟩ := HCL.out _ h4.below
        clear h4 HC c0 c1 c2
        obtain ⟨yf, yt, yb⟩ := y
        go_wp2_with (at_builtin; go_loud (refine wp_appL rfl (.tmp 37) (.tmp 42) rfl w.heap.size gv q rfl (HN4.out.row.alloc _) (.slice (some ⟨w4.heap.size, 0, none⟩) 1 1) [⟨yf, yt, yb⟩] _ rfl (LsAt.one_new w4 ⟨yf, yt, yb⟩) ?hl ?hbs ?_))
        case hl => exact HQB.out
        case hbs => have := HN4.out.below.size; simp; omega
        intro v5 w5 ho5 hg5 hv5
        have HN5 : Hid (NG w w5 b ⟨q ++ [⟨yf, yt, yb⟩], S0⟩ v5 (q ++ [⟨yf, yt, yb⟩])) := Lib.hid (HN4.out.grow ((Below.refl _ w4).alloc (Nat.le_refl _) _) hg5 ho5 fun g hg => (hv5 g hg).imp id fun q => by simpa using q)
        clear ho5 hg5 hv5 HN4
        go_wp2_with fail
        go_roundw
        case rel => exact ⟨i + 1, _, _, rfl, rfl, by omega, by simp; omega, HQO, HN5⟩
        case measure => simp [numOf]; omega
    · have hil2 : (xs.length : Int) ≤ (i : Int) ∨ ((i : Int) < (xs.length : Int) ∧ (100 : Int) ≤ (i : Int)) := by omega
      have HQL := Lib.hid (show q.length ≤ 100 by omega)
      obtain ⟨Ag, cg, rfl, gc1, gc2, _⟩ := hn.out.row.form
      obtain ⟨m, hm⟩ : ∃ m, q.length = m := ⟨_, rfl⟩
      have HM := Lib.hid hm
      rw [hm] at hn gc1 ⊢
      have hm100 : (m : Int) ≤ 100 := by have := HQL.out; rw [hm] at this; omega
      clear hil hm hq
      rcases hil2 with h1 | ⟨h1, h2⟩
      all_goals
        go_wp2_with fail
        refine (ng_split hn.out s s0 s1).mono ?_
        rintro e w4 ⟨rfl, h4⟩
        have HN4 : Hid (NG w w4 b ⟨q, Sp s⟩ (.slice Ag m cg) q) := Lib.hid h4
        clear h4 hn
        go_wp2_with fail
        go_loopw [8, 49] (fun _ jV wr => ∃ j : Nat, jV = .int .i64 (j : Nat) ∧ j ≤ m ∧ Hid (NG w wr b ⟨q.drop j, Sp s⟩ (.slice Ag m cg) q)) (fun _ jV _ => m - (numOf jV).toNat)
        case atStart => exact ⟨0, rfl, by omega, HN4⟩
        case round =>
          obtain ⟨j, rfl, hj, hn⟩ := hrel
          clear HN4
          by_cases hjm : j < m
          · obtain ⟨l, hl⟩ : ∃ l, q[j]? = some l := ⟨_, List.getElem?_eq_getElem (by have := HM.out; omega)⟩
            have hjm2 : (j : Int) < (m : Int) := by omega
            obtain ⟨p0, p1, p2, p3⟩ := Net.ok_places (hqo.out l (List.mem_of_getElem? hl))
            obtain ⟨lf, lt, bd⟩ := l
            dsimp only at p0 p1 p2 p3
            obtain ⟨ff, rfl⟩ : ∃ ff : Nat, lf = (ff : Int) := ⟨lf.toNat, by omega⟩
            obtain ⟨tt, rfl⟩ : ∃ tt : Nat, lt = (tt : Int) := ⟨lt.toNat, by omega⟩
            have hf32 : ff < 32 := by omega
            have ht32 : tt < 32 := by omega
            have hfi : (ff : Int) < 32 := by omega
            have hti : (tt : Int) < 32 := by omega
            have hq0 : (q.drop j)[0]? = some ⟨(ff : Int), (tt : Int), bd⟩ := by rw [List.getElem?_drop]; exact hl
            have he0 : (q.drop j).eraseIdx 0 = q.drop (j + 1) := by rw [List.eraseIdx_zero, List.tail_drop]
            have hta := Net.take_at (N := ⟨q.drop j, Sp s⟩) (k := 0) hq0
            rw [he0] at hta
            rw [show Net.side ⟨q.drop j, Sp s⟩ (⟨(ff : Int), (tt : Int), bd⟩ : Let).f = Net.bit s ff from Net.side_split _ s hf32, show Net.side ⟨q.drop j, Sp s⟩ (⟨(ff : Int), (tt : Int), bd⟩ : Let).t = Net.bit s tt from Net.side_split _ s ht32] at hta
            have C := ng_take hn.out 0 (by decide) (by decide)
            rw [show Net.take ⟨q.drop j, Sp s⟩ 0 = _ from hta] at C
            obtain ⟨gk, go, c2, e2, _, hgl, d0, d1, d2⟩ := hn.out.row.at'.one hl
            injection e2 with e2 e3 e4
            clear e3
            subst e2 e4
            have HCL2 : Hid (∀ W' : World, W'.heap[gk]? = wr.heap[gk]? → W'.cell? ⟨gk, go + j * 3, none⟩ = some (.int .i64 (ff : Nat)) ∧ W'.cell? ⟨gk, go + j * 3 + 1, none⟩ = some (.int .i64 (tt : Nat)) ∧ W'.cell? ⟨gk, go + j * 3 + 2, none⟩ = some (.string bd)) := Lib.hid fun W' e => ⟨(World.cell?_of_block e).trans d0, (World.cell?_of_block e).trans d1, (World.cell?_of_block e).trans d2⟩
            have hbf : bits .and .i64 (s / 2 ^ ff) 1 = Net.bit s ff := by rw [i64_and1]; unfold Net.bit; push_cast; rfl
            have hbt : bits .and .i64 (s / 2 ^ tt) 1 = Net.bit s tt := by rw [i64_and1]; unfold Net.bit; push_cast; rfl
            have HLJ := Lib.hid hl
            clear d0 d1 d2 hl hq0 he0 hta
            generalize Net.bit s ff = bf at *
            generalize Net.bit s tt = bt at *
            clear HCL2
            by_cases hbb : bf = bt
            · subst hbb
              rw [if_pos rfl] at C
              have HC := Lib.hid C
              unfold letV at HC
              dsimp only at HC
              have hne := fun W => ne32 ⟨(ff : Int), (tt : Int), bd⟩ ⟨(ff : Int), (tt : Int), bd⟩ W
              rw [show decide ((⟨(ff : Int), (tt : Int), bd⟩ : Let) = ⟨(ff : Int), (tt : Int), bd⟩) = true from by simp] at hne
              unfold letV at hne
              dsimp only at hne
              clear C hn
              go_wp2_with fail
              refine HC.out.mono ?_
              rintro e w5 ⟨rfl, h5⟩
              have HN5 : Hid (∀ k, NG w (((w5.alloc (.cells #[.int .i64 (ff : Nat), .int .i64 (tt : Nat), .string bd] 32)).drewN k)) b ⟨q.drop (j + 1), Sp s⟩ (.slice (some ⟨gk, go, none⟩) m cg) q) := Lib.hid fun k => h5.after (below_drewN ((Below.refl _ w5).alloc (Nat.le_refl _) _) k)
              obtain ⟨gk2, go2, c2, e2, _, hgl5, d0, d1, d2⟩ := h5.row.at'.one HLJ.out
              injection e2 with e2 e3 e4
              clear e3 e4
              injection e2 with e2
              injection e2 with e2 e3
              subst e2 e3
              dsimp only at d0 d1 d2
              clear h5 HC
              go_wp2_with fail
              go_quiet (fail)
              go_wp2_with fail
              go_quiet (fail)
              go_wp2_with fail
              go_roundw
              case rel => exact ⟨j + 1, rfl, by omega, Lib.hid (HN5.out _)⟩
              case measure => simp [numOf]; omega
            · rw [if_neg hbb] at C
              have HC := Lib.hid C
              unfold letV Net.zeroL at HC
              dsimp only at HC
              have hbb2 : (bf == bt) = false := beq_eq_false_iff_ne.2 hbb
              clear C hn
              go_wp2_with fail
              refine HC.out.mono ?_
              rintro e w5 ⟨rfl, h5⟩
              have HN5 : Hid (∀ k, NG w (((w5.alloc (.cells #[.int .i64 0, .int .i64 0, .string ⟨#[]⟩] 32)).drewN k)) b ⟨q.drop (j + 1), Sp s⟩ (.slice (some ⟨gk, go, none⟩) m cg) q) := Lib.hid fun k => h5.after (below_drewN ((Below.refl _ w5).alloc (Nat.le_refl _) _) k)
              obtain ⟨gk2, go2, c2, e2, _, hgl5, d0, d1, d2⟩ := h5.row.at'.one HLJ.out
              injection e2 with e2 e3 e4
              clear e3 e4
              injection e2 with e2
              injection e2 with e2 e3
              subst e2 e3
              dsimp only at d0 d1 d2
              clear h5 HC
              go_wp2_with fail
              go_quiet (fail)
              go_wp2_with fail
              go_quiet (fail)
              go_wp2_with fail
              go_roundw
              case rel => exact ⟨j + 1, rfl, by omega, Lib.hid (HN5.out _)⟩
              case measure => simp [numOf]; omega
          · have hje : j = m := by omega
            subst hje
            have hnil : q.drop j = [] := List.drop_eq_nil_of_le (by have := HM.out; omega)
            rw [hnil] at hn
            clear hnil hjm hj
            go_wp2_with fail
            refine (ng_split hn.out (-1) (by decide) (by decide)).mono ?_
            rintro e w5 ⟨rfl, h5⟩
            have HN5 : Hid (NG w w5 b ⟨q.take 0, Sp (-1)⟩ (.slice Ag j cg) q) := Lib.hid h5
            clear h5 hn
            go_wp2_with fail
            go_loopw [12, 102] (fun _ kV wr => ∃ k : Nat, kV = .int .i64 (k : Nat) ∧ k ≤ j ∧ Hid (NG w wr b ⟨q.take k, Sp (-1)⟩ (.slice Ag j cg) q)) (fun _ kV _ => j - (numOf kV).toNat)
            case atStart => exact ⟨0, rfl, by omega, HN5⟩
            case round =>
              obtain ⟨k, rfl, hk, hn⟩ := hrel
              clear HN5
              by_cases hkj : k < j
              · obtain ⟨l, hl⟩ : ∃ l, q[k]? = some l := ⟨_, List.getElem?_eq_getElem (by have := HM.out; omega)⟩
                have hkj2 : (k : Int) < (j : Int) := by omega
                have hokl := hqo.out l (List.mem_of_getElem? hl)
                have C := ng_send hn.out l (fit_of_ok hokl)
                rw [Net.send_yes hokl (by show (q.take k).length < 400; rw [List.length_take]; omega)] at C
                have htk : q.take k ++ [l] = q.take (k + 1) := by
                  rw [List.take_add_one, hl]; rfl
                rw [show (⟨(Net.mk (q.take k) (Sp (-1))).q ++ [l], (Net.mk (q.take k) (Sp (-1))).s⟩ : Net) = ⟨q.take (k + 1), Sp (-1)⟩ from by rw [← htk]] at C
                obtain ⟨gk, go, c2, e2, _, hgl, d0, d1, d2⟩ := hn.out.row.at'.one hl
                injection e2 with e2 e3 e4
                clear e3
                subst e2 e4
                unfold letV at C
                have HC := Lib.hid C
                clear C hl htk hokl
                go_wp2_with fail
                refine HC.out.mono ?_
                rintro e w6 ⟨rfl, h6⟩
                have HN6 := Lib.hid h6
                clear h6 HC
                go_wp2_with fail
                go_roundw
                case rel => exact ⟨k + 1, rfl, by omega, HN6⟩
                case measure => simp [numOf]; omega
              · have hke : k = j := by omega
                subst hke
                clear hkj hk
                have HN6 : Hid (NG w wr b ⟨q.take k, Sp (-1)⟩ (.slice Ag k cg) q) := hn
                clear hn
                have hw : IntKind.i64.wrap ((k : Int) - 1) = (k : Int) - 1 := IntWalk.i64_in _ (by omega)
                go_wp2_with fail
                go_loopw [13] (fun zV wr => ∃ (z : Int) (p : Nat), z = (p : Int) - 1 ∧ zV = .int .i64 z ∧ p ≤ k ∧ Hid (NG w wr b ⟨q.take p, Sp (-1)⟩ (.slice Ag k cg) q)) (fun zV _ => (numOf zV + 1).toNat)
                case atStart => exact ⟨_, k, rfl, rfl, by omega, HN6⟩
                case round =>
                  obtain ⟨z, p, hz, rfl, hp, hn⟩ := hrel
                  clear HN6 hw
                  by_cases hp0 : p = 0
                  · subst hp0
                    obtain rfl : z = -1 := by omega
                    clear hz hp
                    go_wp2_with fail
                    refine (ng_way hn.out).mono ?_
                    rintro e w7 ⟨A7, c7, rfl, h7⟩
                    have HB7 := Lib.hid h7.below
                    clear h7
                    go_wp2_with fail
                    go_ret
                    exact ⟨rfl, HB7.out⟩
                  · obtain ⟨r, rfl⟩ : ∃ r, p = r + 1 := ⟨p - 1, by omega⟩
                    obtain rfl : z = (r : Int) := by omega
                    clear hz hp0
                    obtain ⟨l, hl⟩ : ∃ l, q[r]? = some l := ⟨_, List.getElem?_eq_getElem (by have := HM.out; omega)⟩
                    have hrk2 : (r : Int) < (k : Int) := by omega
                    obtain ⟨p0, p1, p2, p3⟩ := Net.ok_places (hqo.out l (List.mem_of_getElem? hl))
                    have hq0 : (q.take (r + 1))[r]? = some l := by rw [List.getElem?_take, if_pos (by omega)]; exact hl
                    have he0 : (q.take (r + 1)).eraseIdx r = q.take r := by
                      rw [List.eraseIdx_eq_take_drop_succ, List.take_take, List.drop_eq_nil_of_le (by rw [List.length_take]; omega), List.append_nil]
                      congr 1; omega
                    have hta := Net.take_at (N := ⟨q.take (r + 1), Sp (-1)⟩) (k := r) hq0
                    rw [he0] at hta
                    have sd : ∀ f : Int, 0 ≤ f → f < 32 → Net.side ⟨q.take (r + 1), Sp (-1)⟩ f = 1 := fun f h0 h1 => by
                      obtain ⟨n, rfl⟩ : ∃ n : Nat, f = (n : Int) := ⟨f.toNat, by omega⟩
                      rw [show Net.side ⟨q.take (r + 1), Sp (-1)⟩ (n : Nat) = Net.bit (-1) n from Net.side_split _ _ (by omega)]
                      exact Net.bit_all n
                    rw [sd l.f p0 p1, sd l.t p2 p3, if_pos rfl] at hta
                    have C := ng_take hn.out (r : Int) (by omega) (by omega)
                    rw [hta] at C
                    have hne := fun W => ne32 l l W
                    rw [show decide (l = l) = true from by simp] at hne
                    unfold letV at hne C
                    have HC := Lib.hid C
                    have HLJ := Lib.hid hl
                    have hw : IntKind.i64.wrap ((r : Int) - 1) = (r : Int) - 1 := IntWalk.i64_in _ (by omega)
                    clear C hl he0 hta hq0 sd p0 p1 p2 p3 hn
                    go_wp2_with fail
                    refine HC.out.mono ?_
                    rintro e w7 ⟨rfl, h7⟩
                    have HN7 : Hid (∀ n, NG w (((w7.alloc (.cells #[.int .i64 l.f, .int .i64 l.t, .string l.b] 32)).drewN n)) b ⟨q.take r, Sp (-1)⟩ (.slice Ag k cg) q) := Lib.hid fun n => h7.after (below_drewN ((Below.refl _ w7).alloc (Nat.le_refl _) _) n)
                    obtain ⟨gk2, go2, c2, e2, _, hgl7, d0, d1, d2⟩ := h7.row.at'.one HLJ.out
                    injection e2 with e2 e3 e4
                    clear e3
                    subst e2 e4
                    clear h7 HC
                    go_wp2_with fail
                    go_quiet (fail)
                    go_wp2_with fail
                    go_roundw
                    case rel => exact ⟨_, r, rfl, rfl, by omega, Lib.hid (HN7.out _)⟩
                    case measure => simp [numOf]
end Go.Proofs.Ytipclhklkngamaa
