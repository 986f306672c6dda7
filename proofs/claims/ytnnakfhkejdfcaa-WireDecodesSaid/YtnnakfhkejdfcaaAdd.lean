import Derived.Test.YtnnakfhkejdfcaaMem
namespace Go.Proofs.Ytnnakfhkejdfcaa
open Go.RowKit Pl
set_option linter.unusedVariables false

def AddPost (g : Nat) (t : It) (i b : Int) (d : Bool) (dp : Int) (w : World) (e : Ending) (w' : World) : Prop :=
  e = .returned (.bool (fits t i dp)) ∧ w.grownBy w' (some g) ∧ (fits t i dp = true → ∃ b', Tal w' g (i + t.cnt) b' (d || !t.good) ∧ b ≤ b' ∧ b' ≤ b + 4200 * t.cnt ∧ (t.good = true → b' = b + t.enc.length))

/-- a list's head in the loop: the first j have been added -/
def AddRel (g : Nat) (l : List It) (i b : Int) (d0 : Bool) (dp : Int) (w : World) (u : Value) (wr : World) : Prop :=
  ∃ j : Nat, j ≤ l.length ∧ u = .int .i64 j ∧ fitsL (l.take j) (i + 1) (dp + 1) = true ∧ w.grownBy wr (some g) ∧ ∃ b', Tal wr g (i + 1 + cnts (l.take j)) b' (d0 || !goods (l.take j)) ∧ b ≤ b' ∧
    b' ≤ b + 4200 * cnts (l.take j) ∧ (goods (l.take j) = true → b' = b + (encs (l.take j)).length)

theorem rel_snoc {g : Nat} {l : List It} {i b : Int} {d0 : Bool} {dp : Int} {w w3 : World} {j : Nat} {x : It} {bb b3 : Int} (hlt : j < l.length) (hts : l.take (j + 1) = l.take j ++ [x])
    (hf : fitsL (l.take j) (i + 1) (dp + 1) = true) (hfx : fits x (i + 1 + cnts (l.take j)) (dp + 1) = true) (hg : w.grownBy w3 (some g)) (h1 : b ≤ bb) (h2 : bb ≤ b + 4200 * cnts (l.take j)) (h3 : goods (l.take j) = true → bb = b + (encs (l.take j)).length)
    (hT : Tal w3 g (i + 1 + cnts (l.take j) + x.cnt) b3 (d0 || !goods (l.take j) || !x.good)) (h4 : bb ≤ b3) (h5 : b3 ≤ bb + 4200 * x.cnt) (h6 : x.good = true → b3 = bb + x.enc.length) :
    AddRel g l i b d0 dp w (.int .i64 ((j : Int) + 1)) w3 := by
  refine ⟨j + 1, by omega, by rw [Int.natCast_add]; rfl, by rw [hts, fitsL_snoc, hf, hfx]; rfl, hg, b3, ?_, by omega, ?_, ?_⟩
  · rw [hts, cnts_append, cnts_one, goods_append, goods_one]
    have e1 : i + 1 + ((cnts (l.take j) + x.cnt : Nat) : Int) = i + 1 + cnts (l.take j) + x.cnt := by omega
    have e2 : (d0 || !(goods (l.take j) && x.good)) = (d0 || !goods (l.take j) || !x.good) := by rw [Bool.not_and, Bool.or_assoc]
    rw [e1, e2]; exact hT
  · rw [hts, cnts_append, cnts_one]; omega
  · rw [hts, goods_append, goods_one, encs_append, encs_one, List.length_append]
    intro h
    rw [Bool.and_eq_true] at h
    have a1 := h3 h.1
    have a2 := h6 h.2
    omega

theorem rel_end {g : Nat} {k n : Int} {s : ByteArray} {l : List It} {i b b' bb : Int} {d : Bool} {dp : Int} {w wr : World} {j : Nat} (ej : j = l.length) (i1 : i + 1 ≤ 4096) (d1 : dp ≤ 12) (hs : k = 2 → s.size ≤ 4096)
    (hf : fitsL (l.take j) (i + 1) (dp + 1) = true) (hg : w.grownBy wr (some g)) (hb : form k n s l.length = true → b' = b + own k n s l.length) (hb1 : b ≤ b') (hb2 : b' ≤ b + 4200)
    (hT : Tal wr g (i + 1 + cnts (l.take j)) bb (d || !form k n s l.length || !goods (l.take j))) (h1 : b' ≤ bb) (h2 : bb ≤ b' + 4200 * cnts (l.take j)) (h3 : goods (l.take j) = true → bb = b' + (encs (l.take j)).length) :
    w.grownBy wr (some g) ∧ (fits (.mk k n s l) i dp = true → ∃ b', Tal wr g (i + (It.mk k n s l).cnt) b' (d || !(It.mk k n s l).good) ∧ b ≤ b' ∧ b' ≤ b + 4200 * (It.mk k n s l).cnt ∧ ((It.mk k n s l).good = true → b' = b + (It.mk k n s l).enc.length)) := by
  subst ej
  rw [List.take_length] at *
  refine ⟨hg, fun _ => ⟨bb, ?_, by omega, ?_, ?_⟩⟩
  · rw [cnt_mk, good_mk]
    have e1 : i + ((1 + cnts l : Nat) : Int) = i + 1 + cnts l := by omega
    have e2 : (d || !(form k n s l.length && goods l)) = (d || !form k n s l.length || !goods l) := by rw [Bool.not_and, Bool.or_assoc]
    rw [e1, e2]; exact hT
  · rw [cnt_mk]; omega
  · rw [good_mk, Bool.and_eq_true]
    intro h
    rw [enc_length h.1]
    have a1 := hb h.1
    have a2 := h3 h.2
    omega

def AddAll (N : Nat) : Prop := ∀ (t : It) (g : Nat) (i b : Int) (d : Bool) (dp : Int) (v : Value) (S : Nat → Prop) (w : World), t.cnt ≤ N → IsIt w S t v → (∀ q, S q → q < w.heap.size ∧ q ≠ g) → Tal w g i b d → 0 ≤ i → i ≤ 4096 → 0 ≤ b → b ≤ 4200 * i → 0 ≤ dp → dp ≤ 13 →
    Calls Try.prog 34 #[.pointer (some ⟨g, 0, none⟩), v, .int .i64 dp] w (AddPost g t i b d dp w)

set_option maxRecDepth 20000 in
theorem add_step (N : Nat) (ih : AddAll N) (k n : Int) (s : ByteArray) (l : List It) (a : Option Addr) (c : Nat) (g : Nat) (i b : Int) (d : Bool) (dp : Int) (S : Nat → Prop) (w : World)
    (hN : cnts l ≤ N) (hn : InR n) (hm : l.length ≤ maxLen) (hl : AreIts w S l a 0) (hg : ∀ q, S q → q < w.heap.size ∧ q ≠ g) (ht : Tal w g i b d) (i0 : 0 ≤ i) (i1 : i + 1 ≤ 4096) (b0 : 0 ≤ b) (b1 : b ≤ 4200 * i) (d0 : 0 ≤ dp) (d1 : dp ≤ 12)
    (hs : k = 2 → s.size ≤ 4096) (hk : (k == 2) = false ∨ ((k == 2) = true ∧ ((s.size : Int) ≤ 4096))) :
    Calls Try.prog 34 #[.pointer (some ⟨g, 0, none⟩), .agg #[.int .i64 k, .int .i64 n, .string s, .slice a l.length c], .int .i64 dp] w (AddPost g (.mk k n s l) i b d dp w) := by
  have c0 := ht.c0
  have f0 := ht.fr 0
  have hgl : g < w.heap.size := World.block_lt_of_cell? w _ c0
  have HT := Lib.hid ht
  have HL := Lib.hid hl
  have HI := Lib.hid ih
  have HS := Lib.hid hs
  unfold maxLen at hm
  have HSg := Lib.hid hg
  clear ht hl ih hs hg
  rcases hk with hk | ⟨hk, hk4⟩
  all_goals
    go_enter Try.func34, Try.ntmps34
    go_wp2_with fail
    refine (meaning_any _ _ _ _ _ _ _).mono ?_
    rintro e w1 ⟨rfl, hb1⟩
    have hT1 : Tal w1 g (i + 1) b d := (hb1.block g (by simp; omega)).trans ((Below.heap_alloc _ _ g (by simpa using hgl)).trans (HT.out.set0 (i + 1)))
    have hx1 : w1.heap[w.heap.size]? = some (.cells #[.int .i64 k, .int .i64 n, .string s, .slice a l.length c] 26 (0, 0)) := (hb1.block _ (by simp)).trans (by rw [show w.heap.size = (w.setCell ⟨g, 0, none⟩ (.int .i64 (i + 1))).heap.size from (World.size_setCell _ _ _).symm]; exact heap_alloc_new _ _)
    have hg1 : w.grownBy w1 (some g) := grownBy_trans (grownBy_set w g 0 (.int .i64 (i + 1))) (grownBy_below (((Below.refl _ _).alloc (Nat.le_refl _) _).trans (hb1.mono (by simp))) _)
    have HX := Lib.hid hx1
    have HG := Lib.hid hg1
    have HT1 := Lib.hid hT1
    clear hb1 hx1 hg1 hT1 c0 f0 HT
    go_wp2_with fail
    refine (weigh_any g (i + 1) b d k n s a l.length c w1 HT1.out ⟨b0, by omega⟩ hn (by omega) HS.out).mono ?_
    rintro e w2 ⟨rfl, hg2, b', hT2, hb1, hb2, hb3⟩
    have hne : w.heap.size ≠ g := by omega
    have hx2 : w2.heap[w.heap.size]? = some (.cells #[.int .i64 k, .int .i64 n, .string s, .slice a l.length c] 26 (0, 0)) := (hg2.block _ (Array.getElem?_eq_some_iff.1 HX.out).1 (by simpa using hne)).trans HX.out
    have hc3 : w2.cell? ⟨w.heap.size, 3, none⟩ = some (.slice a l.length c) := cell_of_row w2 _ 3 _ _ _ hx2
    have hgg := grownBy_trans HG.out hg2
    have HG2 := Lib.hid hgg
    have HT2 := Lib.hid hT2
    have HB3 := Lib.hid hb3
    clear HX HG HT1 hg2 hT2 hx2 hgg hb3
    go_wp2_with fail
    go_loopw [43] (fun u wr => AddRel g l i b' (d || !form k n s l.length) dp w u wr) (fun u _ => (l.length - (intOf u).toNat))
    case atStart => exact ⟨0, by omega, rfl, by simp [fitsL, cnts, deps, longs]; omega, HG2.out, b', by simpa [cnts, goods] using HT2.out, by omega, by simp [cnts], by simp [encs]⟩
    case round =>
      obtain ⟨j, hj, rfl, hfit, hgr, bb, hTr, hbb1, hbb2, hbb3⟩ := hrel
      have hkeep : ∀ q, S q → wr.heap[q]? = w.heap[q]? := fun q hq => hgr.block q (HSg.out q hq).1 (by simpa using (HSg.out q hq).2)
      by_cases hlt : j < l.length
      · obtain ⟨bk, off, u0, u1, u2, u3, rfl, hSb, k0, k1, k2, k3, hx⟩ := (AreIts.keep hkeep l HL.out).at_ (k := j) (x := l[j]) (List.getElem?_eq_getElem hlt)
        have hts := take_succ' l j l[j] (List.getElem?_eq_getElem hlt)
        have hmc := mem_cnt (List.getElem?_eq_getElem hlt)
        generalize l[j] = x at hx hts hmc
        obtain ⟨qk, qn, qs, qa, qm, qc, rfl, rfl, rfl, rfl⟩ := hx.parts
        have HX := Lib.hid hx
        have HTS := Lib.hid hts
        have HTR := Lib.hid hTr
        have HBB := Lib.hid hbb3
        have HF := Lib.hid hfit
        have hbl := (HSg.out bk hSb).1
        have hsz := hgr.size
        have HGR := Lib.hid hgr
        clear hx hts hTr hbb3 hfit hkeep hgr
        rw [Nat.zero_add] at k0 k1 k2 k3
        go_wp2_with fail
        have hfb := fitsL_bounds HF.out
        have hbb := HBB.out
        refine (HI.out x g _ bb _ (dp + 1) _ S _ (by omega) (IsIt.keep (fun q hq => Below.heap_alloc _ _ q (by have := (HSg.out q hq).1; omega)) x HX.out) (fun q hq => ⟨by have := (HSg.out q hq).1; simp; omega, (HSg.out q hq).2⟩)
          (show Tal _ g (i + 1 + cnts (l.take j)) bb (d || !form k n s l.length || !goods (List.take j l)) from (Below.heap_alloc _ _ g (by omega)).trans HTR.out) (by omega) (by omega) (by omega) (by omega) (by omega) (by omega)).mono ?_
        rintro e w3 ⟨rfl, hg3, hok⟩
        have hg4 : w.grownBy w3 (some g) := grownBy_trans HGR.out (grownBy_trans (World.grownBy_alloc _ _ _) hg3)
        have HG4 := Lib.hid hg4
        have HOK := Lib.hid hok
        clear hg3 hg4 hok hbb hfb
        generalize hfx : fits x (i + 1 + cnts (l.take j)) (dp + 1) = fx
        cases fx
        · have HFX := Lib.hid hfx
          clear hfx
          go_wp2_with fail
          go_ret
          have hff := fits_false (k := k) (n := n) (s := s) j x HTS.out HFX.out
          exact ⟨by rw [hff]; rfl, HG4.out, fun h => by rw [hff] at h; cases h⟩
        · have HFX := Lib.hid hfx
          clear hfx
          go_wp2_with fail
          go_roundw
          case rel =>
            obtain ⟨b3, q1, q2, q3, q4⟩ := HOK.out HFX.out
            exact rel_snoc hlt HTS.out HF.out HFX.out HG4.out hbb1 hbb2 HBB.out q1 q2 q3 q4
          case measure => simp [intOf]; omega
      · have ej : j = l.length := by omega
        have hfitl := hfit
        rw [ej, List.take_length] at hfitl
        have hend := rel_end (k := k) (n := n) (s := s) (d := d) (b := b) ej i1 d1 HS.out hfit hgr (HB3.out) hb1 hb2 hTr hbb1 hbb2 hbb3
        have HE := Lib.hid hend
        have HFF := Lib.hid (fits_true i1 d1 HS.out hfitl : fits (.mk k n s l) i dp = true)
        clear hend hTr hbb3 hgr hfit hfitl hkeep
        go_wp2_with fail
        go_ret
        exact ⟨by rw [HFF.out]; rfl, HE.out.1, HE.out.2⟩

def AddNo (g : Nat) (w : World) (e : Ending) (w' : World) : Prop := e = .returned (.bool false) ∧ w.grownBy w' (some g)

set_option maxRecDepth 20000 in
theorem add_no (k n : Int) (s : ByteArray) (a : Option Addr) (m c : Nat) (g : Nat) (i b : Int) (d : Bool) (dp : Int) (w : World) (ht : Tal w g i b d) (i0 : 0 ≤ i) (i1 : i ≤ 4096)
    (h : 4096 < i + 1 ∨ (i + 1 ≤ 4096 ∧ 12 < dp) ∨ (i + 1 ≤ 4096 ∧ dp ≤ 12 ∧ (k == 2) = true ∧ 4096 < (s.size : Int))) :
    Calls Try.prog 34 #[.pointer (some ⟨g, 0, none⟩), .agg #[.int .i64 k, .int .i64 n, .string s, .slice a m c], .int .i64 dp] w (AddNo g w) := by
  have c0 := ht.c0
  have f0 := ht.fr 0
  have hgl : g < w.heap.size := World.block_lt_of_cell? w _ c0
  clear ht
  rcases h with h | ⟨h1, h2⟩ | ⟨h1, h2, h3, h4⟩
  all_goals
    go_enter Try.func34, Try.ntmps34
    go_wp2_with fail
    go_ret
    exact ⟨rfl, grownBy_trans (grownBy_set w g 0 (.int .i64 (i + 1))) (World.grownBy_alloc _ _ _)⟩

theorem add_all : ∀ N, AddAll N := by
  intro N
  induction N with
  | zero => intro t _ _ _ _ _ _ _ _ h; have := cnt_pos t; omega
  | succ N ih =>
    intro t g i b d dp v S w hN hv hS hT i0 i1 b0 b1 d0 d1
    obtain ⟨k, n, s, l⟩ := t
    rw [IsIt] at hv
    obtain ⟨a, c, rfl, hk, hn, hs, hl, hal⟩ := hv
    rw [cnt_mk] at hN
    have no : ∀ (h : 4096 < i + 1 ∨ (i + 1 ≤ 4096 ∧ 12 < dp) ∨ (i + 1 ≤ 4096 ∧ dp ≤ 12 ∧ (k == 2) = true ∧ 4096 < (s.size : Int))),
        Calls Try.prog 34 #[.pointer (some ⟨g, 0, none⟩), .agg #[.int .i64 k, .int .i64 n, .string s, .slice a l.length c], .int .i64 dp] w (AddPost g (.mk k n s l) i b d dp w) := by
      intro h
      have hf : fits (.mk k n s l) i dp = false := by
        rw [fits_mk]
        rcases h with h | ⟨h1, h2⟩ | ⟨h1, h2, h3, h4⟩
        · rw [show decide (i + 1 ≤ 4096) = false from by simp; omega]; rfl
        · rw [show decide (dp ≤ 12) = false from by simp; omega]; simp
        · rw [h3, show decide (4096 < s.size) = true from by simp; omega]; simp
      refine (add_no k n s a l.length c g i b d dp w hT i0 i1 h).mono fun e w' h => ⟨by rw [hf]; exact h.1, h.2, fun hc => by rw [hf] at hc; cases hc⟩
    by_cases c1 : 4096 < i + 1
    · exact no (.inl c1)
    by_cases c2 : 12 < dp
    · exact no (.inr (.inl ⟨by omega, c2⟩))
    by_cases c3 : (k == 2) = true ∧ 4096 < (s.size : Int)
    · exact no (.inr (.inr ⟨by omega, by omega, c3.1, c3.2⟩))
    refine add_step N ih k n s l a c g i b d dp S w (by omega) hn hl hal hS hT i0 (by omega) b0 b1 d0 (by omega) (fun h2 => ?_) ?_
    · subst h2
      have : ¬ 4096 < (s.size : Int) := fun hc => c3 ⟨rfl, hc⟩
      omega
    · by_cases h2 : (k == 2) = true
      · have : ¬ 4096 < (s.size : Int) := fun hc => c3 ⟨h2, hc⟩
        exact .inr ⟨h2, by omega⟩
      · exact .inl (by simpa using h2)
end Go.Proofs.Ytnnakfhkejdfcaa
