import Derived.Test.YtphclpjekpdifaaGreatY5
import Derived.Test.YtphclpjekpdifaaGreatYXn
namespace Go.Proofs.YtphclpjekpdifaaGreat.Nm
open Go.RowKit
open Go.Proofs.YtphclpjekpdifaaGreat
set_option linter.unusedVariables false
theorem at_step {l m : List UInt8} {i : Nat} {x : UInt8} (hat : ∀ j, m[j]? = if j < i then (key l)[j]? else l[j]?) (hx : m[i]? = some x) : ∀ j, (m.set i (lowB x))[j]? = if j < i + 1 then (key l)[j]? else l[j]? := by
  intro j
  have hi : i < m.length := (List.getElem?_eq_some_iff.1 hx).1
  have hl : l[i]? = some x := by have := hat i; rw [if_neg (by omega), hx] at this; exact this.symm
  by_cases e : i = j
  · subst e
    rw [List.getElem?_set_self hi, if_pos (by omega)]
    unfold key
    rw [List.getElem?_map, hl]
    rfl
  · rw [List.getElem?_set_ne e, hat j]
    by_cases h : j < i
    · rw [if_pos h, if_pos (by omega)]
    · rw [if_neg h, if_neg (by omega)]
theorem set_same {m : List UInt8} {i : Nat} {x : UInt8} (hx : m[i]? = some x) : m.set i x = m := by
  apply List.ext_getElem?
  intro j
  by_cases e : i = j
  · subst e
    rw [List.getElem?_set_self (List.getElem?_eq_some_iff.1 hx).1, hx]
  · rw [List.getElem?_set_ne e]
theorem lowB_up {x : UInt8} (h : 65 ≤ x.toNat) (k : x.toNat ≤ 90) : (x.toNat : Int) + 32 = ((lowB x).toNat : Int) := by
  rw [lowB_nat]
  have := lowN_is x.toNat
  omega
theorem lowB_id {x : UInt8} (h : ¬ (65 ≤ x.toNat ∧ x.toNat ≤ 90)) : lowB x = x := if_neg h
set_option maxHeartbeats 4000000 in
set_option maxRecDepth 100000 in
theorem refKey_str (l : List UInt8) (w : World) (hs : l.length ≤ 140737488351232) :
    Calls Tryz.prog 57 #[.string (str l)] w (Vc.RetBelow (.tuple #[.string (str (keyOf l)), .int .i64 (errOf l)]) w) := by
  have c1 := refMay_str l w (by omega)
  by_cases hm : may l = true
  · rw [show keyOf l = key l from if_pos hm, show errOf l = 0 from if_pos hm]
    rw [hm] at c1
    have hsz := str_size l
    have hnew := Wi.RowAt.new w l
    generalize hS : str l = SA at *
    have HS := Lib.hid hS
    clear hS
    have C1 := Lib.hid c1
    clear c1
    have hcv := run_bytes_of_string (P := Tryz.prog) w 9 114 5 SA Tryz.underlying9 Tryz.underlying114 Tryz.underlying5
    have HN := Lib.hid (hnew (grownCap w SA.size 0 5))
    clear hnew
    have BA := Lib.hid (((Below.refl w.heap.size w).drew).alloc (Nat.le_refl _) (.cells (bytesRow SA (grownCap w SA.size 0 5)) 5 ((bytesRow SA (grownCap w SA.size 0 5)).size, (bytesRow SA (grownCap w SA.size 0 5)).size + 1)))
    generalize hg : w.heap.size = g at *
    generalize grownCap w SA.size 0 5 = cap at *
    generalize (w.drew.alloc (.cells (bytesRow SA cap) 5 ((bytesRow SA cap).size, (bytesRow SA cap).size + 1))) = W2 at *
    generalize hn : SA.size = n at *
    subst hsz
    go_enter Tryz.func57, Tryz.ntmps57
    go_wp2_with fail
    refine C1.out.mono ?_
    rintro e w' ⟨rfl, rfl⟩
    go_wp2_with fail
    go_loopw [5] (fun c wr => ∃ (i : Nat) (m : List UInt8), c = .int .i64 (i : Nat) ∧ i ≤ l.length ∧ Wi.RowAt wr g m ∧ m.length = l.length ∧ (∀ j, m[j]? = if j < i then (key l)[j]? else l[j]?) ∧ Below g w wr) (fun c _ => l.length - (Lib.intOf c).toNat)
    case atStart => exact ⟨0, l, rfl, by omega, HN.out, rfl, fun j => by rw [if_neg (by omega)], BA.out⟩
    case round =>
      obtain ⟨i, m, rfl, hi, hrow, hml, hat, hbw⟩ := hrel
      have HROW := Lib.hid hrow
      have HAT := Lib.hid hat
      have HBW := Lib.hid hbw
      clear hrow hat hbw
      by_cases hin : i < l.length
      · obtain ⟨x, hx⟩ : ∃ x, m[i]? = some x := ⟨_, List.getElem?_eq_getElem (by omega)⟩
        obtain ⟨hc, hf⟩ := HROW.out.cell hx
        have hxl := x.toNat_lt
        have HML := Lib.hid hml
        clear hml
        go_wp2_with fail
        all_goals
          first
            | (have hu : 65 ≤ x.toNat ∧ x.toNat ≤ 90 := by omega
               rw [lowB_up hu.1 hu.2]
               exact ⟨⟨i + 1, m.set i (lowB x), rfl, by omega, HROW.out.set (by have := HML.out; omega) _, by rw [List.length_set]; exact HML.out, at_step HAT.out hx, HBW.out.setCell (p := ⟨g, i, none⟩) (Nat.le_refl g) _⟩, by simp [Lib.intOf]; omega⟩)
            | (have hu : ¬ (65 ≤ x.toNat ∧ x.toNat ≤ 90) := by omega
               have ht := at_step HAT.out hx
               rw [lowB_id hu, set_same hx] at ht
               exact ⟨⟨i + 1, m, rfl, by omega, HROW.out, HML.out, ht, HBW.out⟩, by simp [Lib.intOf]; omega⟩)
      · have HML := Lib.hid hml
        clear hml
        have hcs := HROW.out.text l.length cap HML.out.symm
        go_wp2_with fail
        go_ret2
        have e : m = key l := by
          apply List.ext_getElem?
          intro j
          rw [HAT.out j]
          by_cases hj : j < i
          · rw [if_pos hj]
          · rw [if_neg hj, List.getElem?_eq_none (by omega), List.getElem?_eq_none (by rw [key_len]; omega)]
        rw [e]
        exact ⟨rfl, by rw [hg]; exact HBW.out⟩
  · rw [show keyOf l = [] from if_neg hm, show errOf l = 5 from if_neg hm]
    rw [Bool.eq_false_iff.2 hm] at c1
    generalize str l = S at *
    have C1 := Lib.hid c1
    clear c1
    go_enter Tryz.func57, Tryz.ntmps57
    go_wp2_with fail
    refine C1.out.mono ?_
    rintro e w' ⟨rfl, rfl⟩
    go_wp2_with fail
    go_ret2
    exact ⟨rfl, Below.refl _ _⟩
end Go.Proofs.YtphclpjekpdifaaGreat.Nm
namespace Go.Proofs.YtphclpjekpdifaaGreat
set_option maxRecDepth 20000
open Go.RowKit
open PS (Tx kOf)
open Go.Proofs.YtphclpjekpdifaaGreat.Nm (str)
open Go.Proofs.YtphclpjekpdifaaGreat.Vc (RetBelow)
set_option maxHeartbeats 4000000 in
theorem one_any (a b : Tx) (w : World) (ha : a.length ≤ 140737488351232) (hb : b.length ≤ 140737488351232) :
    Calls Tryz.prog 22 #[.string (str a), .string (str b)] w (RetBelow (.bool (decide (kOf a = kOf b))) w) := by
  have c1 := Lib.hid (fun W => Nm.refKey_str a W ha)
  have c2 := Lib.hid (fun W => Nm.refKey_str b W hb)
  have hq := Lib.hid (str_tl (kOf a) (kOf b))
  unfold kOf at *
  generalize str (Nm.keyOf a) = KA at *
  generalize str (Nm.keyOf b) = KB at *
  generalize decide (Nm.keyOf a = Nm.keyOf b) = v at *
  obtain rfl := hq.out
  clear hq
  generalize str a = A at *
  generalize str b = B at *
  generalize Nm.errOf a = ea at *
  generalize Nm.errOf b = eb at *
  have h0 := Lib.hid (Below.refl w.heap.size w)
  go_enter Tryz.func22, Tryz.ntmps22
  go_wp2_with fail
  refine (c1.out _).mono ?_
  rintro e w1 ⟨rfl, h1⟩
  have h1 := Lib.hid (h0.out.trans (h1.mono h0.out.size))
  go_wp2_with fail
  refine (c2.out _).mono ?_
  rintro e w2 ⟨rfl, h2⟩
  have h2 := Lib.hid (h1.out.trans (h2.mono h1.out.size))
  go_wp2_with fail
  go_ret
  exact ⟨rfl, h2.out⟩
end Go.Proofs.YtphclpjekpdifaaGreat
