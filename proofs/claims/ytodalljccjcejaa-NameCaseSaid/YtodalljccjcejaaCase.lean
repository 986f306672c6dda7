import Derived.Test.YtodalljccjcejaaKeys
import Derived.Laws.IdiomStrings
namespace Go.Proofs.Ytodalljccjcejaa
open Go.RowKit
set_option linter.unusedVariables false

/-- bytes as cells -/
def vB (l : List UInt8) : List Value := l.map fun b => .int .u8 (b.toNat : Int)
/-- a row of bytes of the call's own, as the text's bytes were laid there -/
def RowAt (w : World) (g : Nat) (l : List UInt8) : Prop := ∃ cs fz, w.heap[g]? = some (.cells cs 5 (fz, fz + 1)) ∧ l.length ≤ fz ∧ fz ≤ cs.size ∧ ∀ j, j < l.length → cs[j]? = (vB l)[j]?

theorem vB_at {l : List UInt8} {j : Nat} {x : UInt8} (h : l[j]? = some x) : (vB l)[j]? = some (.int .u8 (x.toNat : Int)) := by simp [vB, h]
theorem RowAt.cell {w : World} {g : Nat} {l : List UInt8} (h : RowAt w g l) {j : Nat} {x : UInt8} (hx : l[j]? = some x) : w.cell? ⟨g, j, none⟩ = some (.int .u8 (x.toNat : Int)) ∧ w.frozen? ⟨g, j, none⟩ = false := by
  obtain ⟨cs, fz, hb, hl, hz, hc⟩ := h
  have hj : j < l.length := (List.getElem?_eq_some_iff.1 hx).1
  refine ⟨by rw [Lib.cell_of_heap hb, hc j hj, vB_at hx], ?_⟩
  unfold World.frozen?
  rw [hb]
  simp
  omega
theorem RowAt.set {w : World} {g : Nat} {l : List UInt8} (h : RowAt w g l) {j : Nat} (hj : j < l.length) (y : UInt8) : RowAt (w.setCell ⟨g, j, none⟩ (.int .u8 (y.toNat : Int))) g (l.set j y) := by
  obtain ⟨cs, fz, hb, hl, hz, hc⟩ := h
  refine ⟨cs.setIfInBounds j (.int .u8 (y.toNat : Int)), fz, by simp [World.setCell, Array.getElem?_modify, hb], by simpa using hl, by simpa using hz, fun k hk => ?_⟩
  rw [List.length_set] at hk
  rw [Array.getElem?_setIfInBounds]
  by_cases e : j = k
  · subst e
    rw [if_pos rfl, if_pos (by omega)]
    symm
    apply vB_at
    rw [List.getElem?_set_self hk]
  · rw [if_neg e, hc k hk]
    simp [vB, List.getElem?_set_ne e]
theorem RowAt.keep {w w' : World} {g : Nat} {l : List UInt8} (h : RowAt w g l) (hb : w'.heap[g]? = w.heap[g]?) : RowAt w' g l := by
  obtain ⟨cs, fz, h1, h2⟩ := h
  exact ⟨cs, fz, hb.trans h1, h2⟩
theorem RowAt.lt {w : World} {g : Nat} {l : List UInt8} (h : RowAt w g l) : g < w.heap.size := by
  obtain ⟨cs, fz, h1, h2⟩ := h
  exact (Array.getElem?_eq_some_iff.1 h1).1
theorem RowAt.new (w : World) (l : List UInt8) (cap : Nat) : RowAt (w.drew.alloc (.cells (bytesRow (str l) cap) 5 ((bytesRow (str l) cap).size, (bytesRow (str l) cap).size + 1))) w.heap.size l := by
  refine ⟨_, _, heap_alloc_new w.drew _, by simp [bytesRow, str], Nat.le_refl _, fun j hj => ?_⟩
  have h1 : j < (str l).data.size := by simp [str]; exact hj
  rw [bytesRow_at _ _ j h1]
  symm
  apply vB_at
  simp [str, hj]
theorem RowAt.text {w : World} {g : Nat} {l : List UInt8} (h : RowAt w g l) (n cap : Nat) (hn : n = l.length) : (convert 35 9 (.slice (some ⟨g, 0, none⟩) n cap)).run Try.prog w = .ok (.string (str l)) w := by
  subst hn
  refine run_convert_bytes_back w 35 9 5 ⟨g, 0, none⟩ cap l Try.underlying35 Try.underlying5 Try.underlying9 fun j hj => ?_
  have := (h.cell (List.getElem?_eq_getElem hj)).1
  unfold Addr.add
  split
  · subst j; exact this
  · simpa using this
/-- a letter that is turned has the same key -/
theorem turned : ∀ x, x < 256 → (97 ≤ x ∧ x ≤ 122 ∨ 65 ≤ x ∧ x ≤ 90) → lowN (x ^^^ 32) = lowN x := by decide +kernel
theorem key_turn {l : List UInt8} {j : Nat} {x y : UInt8} (hx : l[j]? = some x) (h : lowN y.toNat = lowN x.toNat) : key (l.set j y) = key l := by
  unfold key
  rw [List.map_set]
  have : lowB y = lowB x := by rw [← UInt8.toNat_inj, lowB_nat, lowB_nat, h]
  rw [this]
  apply List.ext_getElem?
  intro k
  by_cases e : j = k
  · subst e
    have hl : j < l.length := (List.getElem?_eq_some_iff.1 hx).1
    rw [List.getElem?_set_self (by simpa using hl), List.getElem?_map, hx]
    rfl
  · rw [List.getElem?_set_ne e]

set_option maxHeartbeats 4000000 in
set_option maxRecDepth 100000 in
theorem case_walk (l : List UInt8) (SB KA KB : ByteArray) (EA EB : Int) (bt : Nat) (hbt : bt < 65536) (w : World) (hs : l.length ≤ 140737488351232)
    (C1 : Hid (∀ w, Calls Try.prog 13 #[.string (str l)] w (Ret (.tuple #[.string KA, .int .i64 EA]) w)))
    (C2 : Hid (∀ m w, key m = key l → m.length = l.length → Calls Try.prog 13 #[.string (str m)] w (Ret (.tuple #[.string KA, .int .i64 EA]) w)))
    (C3 : Hid (∀ w, Calls Try.prog 13 #[.string SB] w (Ret (.tuple #[.string KB, .int .i64 EB]) w)))
    (HA : EA = 0 ∨ EA = 5) (HB : EB = 0 ∨ EB = 5) (HK : Hid ((str l).toList = SB.toList → KA = KB)) :
    Calls Try.prog 8 #[.string (str l), .string SB, .int .u16 bt] w (Ret (.bool true) w) := by
  have hsz := str_size l
  have hnew := fun w cap => RowAt.new w l cap
  have hS0 := Lib.hid (rfl : str l = str l)
  generalize hS : str l = SA at *
  have HS := Lib.hid hS
  clear hS hS0
  have B0 := Lib.hid (Below.refl w.heap.size w)
  go_enter Try.func8, Try.ntmps8
  go_wp2_with fail
  refine (awake_any _).mono ?_
  rintro e w1 ⟨rfl, hb⟩
  have B1 := Lib.hid (B0.out.trans (hb.mono B0.out.size))
  clear hb
  have hcv := run_bytes_of_string (P := Try.prog) w1 9 35 5 SA Try.underlying9 Try.underlying35 Try.underlying5
  have HN := Lib.hid (hnew w1 (grownCap w1 SA.size 0 5))
  clear hnew
  have BA := Lib.hid (((Below.refl w1.heap.size w1).drew).alloc (Nat.le_refl _) (.cells (bytesRow SA (grownCap w1 SA.size 0 5)) 5 ((bytesRow SA (grownCap w1 SA.size 0 5)).size, (bytesRow SA (grownCap w1 SA.size 0 5)).size + 1)))
  generalize hg : w1.heap.size = g at *
  generalize grownCap w1 SA.size 0 5 = cap at *
  generalize (w1.drew.alloc (.cells (bytesRow SA cap) 5 ((bytesRow SA cap).size, (bytesRow SA cap).size + 1))) = W2 at *
  generalize hn : SA.size = n at *
  subst hsz
  go_wp2_with fail
  go_loopw [21] (fun c wr => ∃ (i : Nat) (m : List UInt8), c = .int .i64 (i : Nat) ∧ i ≤ l.length ∧ RowAt wr g m ∧ key m = key l ∧ Below g w1 wr) (fun c _ => l.length - (Lib.intOf c).toNat)
  case atStart => exact ⟨0, l, rfl, by omega, HN.out, rfl, BA.out⟩
  case round =>
    obtain ⟨i, m, rfl, hi, hrow, hkm, hbw⟩ := hrel
    have HROW := Lib.hid hrow
    have HKM := Lib.hid hkm
    have HBW := Lib.hid hbw
    have hml : m.length = l.length := by have := congrArg List.length hkm; rwa [key_len, key_len] at this
    clear hrow hkm hbw
    by_cases hin : i < l.length
    · obtain ⟨x, hx⟩ : ∃ x, m[i]? = some x := ⟨_, List.getElem?_eq_getElem (by omega)⟩
      obtain ⟨hc, hf⟩ := HROW.out.cell hx
      have hxl := x.toNat_lt
      have HX := Lib.hid (show bits BinOp.xor IntKind.u8 (x.toNat : Int) 32 = ((x ^^^ 32).toNat : Int) by rw [UInt8.toNat_xor]; exact u8_xor_nat x.toNat 32 (by omega) (by omega))
      go_wp2_with fail
      all_goals first
        | exact ⟨⟨i + 1, m, rfl, by omega, HROW.out, HKM.out, HBW.out⟩, by simp [Lib.intOf]; omega⟩
        | (rw [HX.out]
           refine ⟨⟨i + 1, m.set i (x ^^^ 32), rfl, by omega, HROW.out.set (by omega) _, ?_, HBW.out.setCell (p := ⟨g, i, none⟩) (Nat.le_refl g) _⟩, by simp [Lib.intOf]; omega⟩
           rw [key_turn hx (by rw [UInt8.toNat_xor]; exact turned x.toNat hxl (by omega))]
           exact HKM.out)
    · have HML := Lib.hid hml
      clear hml
      go_wp2_with fail
      refine (C1.out _).mono ?_
      rintro e w2 ⟨rfl, hb⟩
      have HR2 := Lib.hid (HROW.out.keep (hb.block g HROW.out.lt))
      have B2 := Lib.hid (HBW.out.trans (hb.mono (by have := HROW.out.lt; omega)))
      clear hb
      have hcs := HR2.out.text l.length cap HML.out.symm
      go_wp2_with fail
      refine (C2.out m _ HKM.out HML.out).mono ?_
      rintro e w3 ⟨rfl, hb⟩
      have B3 := Lib.hid (B2.out.trans (hb.mono (by have := HR2.out.lt; omega)))
      clear hb hcs
      go_wp2_with fail
      refine (C3.out _).mono ?_
      rintro e w4 ⟨rfl, hb⟩
      have B4 := Lib.hid (B3.out.trans (hb.mono (by rw [← hg]; have := B3.out.size; omega)))
      clear hb
      have BF := Lib.hid (B1.out.trans (B4.out.mono (by rw [← hg]; exact B1.out.size)))
      rcases HA with rfl | rfl
      · rcases HB with rfl | rfl
        · by_cases he : SA.toList = SB.toList
          · have hk := HK.out he
            subst hk
            have hE := Lib.hid he
            go_wp2_with fail
            go_ret
            exact ⟨rfl, BF.out⟩
          · have hne : (SA.toList == SB.toList) = false := beq_eq_false_iff_ne.2 he
            clear he
            go_wp2_with fail
            go_ret
            exact ⟨rfl, BF.out⟩
        · go_wp2_with fail
          go_ret
          exact ⟨rfl, BF.out⟩
      · go_wp2_with fail
        go_ret
        exact ⟨rfl, BF.out⟩

theorem errOf_is (l : List UInt8) : errOf l = 0 ∨ errOf l = 5 := by unfold errOf; split <;> simp
theorem keyOf_same {l m : List UInt8} (h : key m = key l) : keyOf m = keyOf l ∧ errOf m = errOf l := by
  have : may m = may l := by rw [← may_key m, h, may_key]
  unfold keyOf errOf
  rw [this, h]
  exact ⟨rfl, rfl⟩
theorem law_case (a b : List UInt8) (bt : Int) (w : World) (ha : a.length ≤ 140737488351232) (hb : b.length ≤ 140737488351232) (b0 : 0 ≤ bt) (b1 : bt ≤ 65535) : Calls Try.prog 8 #[.string (str a), .string (str b), .int .u16 bt] w (Ret (.bool true) w) := by
  obtain ⟨n, rfl⟩ := Int.eq_ofNat_of_zero_le b0
  refine case_walk a (str b) (str (keyOf a)) (str (keyOf b)) (errOf a) (errOf b) n (by omega) w ha (Lib.hid fun w => key_str a w (by omega)) (Lib.hid fun m w h hm => ?_) (Lib.hid fun w => key_str b w (by omega)) (errOf_is a) (errOf_is b) (Lib.hid fun h => ?_)
  · have := key_str m w (by omega)
    rw [(keyOf_same h).1, (keyOf_same h).2] at this
    exact this
  · rw [ByteArray.toList_eq, ByteArray.toList_eq, list_str, list_str] at h
    rw [h]
end Go.Proofs.Ytodalljccjcejaa
