/-
  The members that entries tell, as the program finds them. Condition: each entry's data has at most 2^48 bytes.
-/
import Derived.Test.YtebacdegjmcnlaaOq
import Derived.Test.YtebacdegjmcnlaaRe
namespace Go.Proofs.Ytebacdegjmcnlaa
set_option maxRecDepth 20000
open Go.RowKit Pl
set_option linter.unusedVariables false
structure En where
  t : Int
  d : ByteArray
def DE : CT En := ⟨fun x => [.int .i64 x.t, .string x.d], 2, 46, 47, .agg #[.int .i64 0, .string ⟨#[]⟩], 24, fun _ => rfl, fun x u h => by simp only [List.mem_cons, List.not_mem_nil, or_false] at h; rcases h with rfl | rfl <;> rfl, by omega, by omega, by rfl, by omega, by kernel_rfl, Try.underlying47⟩
/-- does this data state members? -/
def isConf (d : ByteArray) : Bool := okO d.data.toList && (rdO d.data.toList).k == 4
def ofR (m : Int) : List ByteArray → Int
  | [] => m
  | d :: r => if isConf d = true then (rdO d.data.toList).n else ofR m r
def confOf (m : Int) (L : List En) : Int := ofR m (L.reverse.map (·.d))
theorem str_toList (d : ByteArray) : d = Nm.str d.data.toList := rfl
set_option maxHeartbeats 2000000 in
theorem confOf_any {w : World} {H : Nat → Prop} {A : Option Addr} {n c : Nat} {L : List En} (m : Int) (hr : Rd DE w H A L) (hn : L.length = n) (hbig : n ≤ 4611686018427387904) (hd : ∀ x ∈ L, x.d.size ≤ 281474976710656) : Calls Try.prog 21 #[.int .i64 m, .slice A n c] w (RetBelow (.int .i64 (confOf m L)) w) := by
  have HR := Lib.hid hr
  have HN := Lib.hid hn
  have HD := Lib.hid hd
  have HC : Hid (confOf m L = ofR m ((L.reverse.map (·.d)).drop 0)) := Lib.hid rfl
  generalize confOf m L = re at *
  clear hr hd hn
  go_enter Try.func21, Try.ntmps21
  go_wp2_with fail
  go_loopw [10] (fun v10 wr => ∃ (k : Nat), v10 = .int .i64 (k : Nat) ∧ k ≤ n ∧ Hid (Below w.heap.size w wr) ∧ Hid (re = ofR m ((L.reverse.map (·.d)).drop k))) (fun v10 _ => n - (numOf v10).toNat)
  case atStart => exact ⟨0, rfl, by omega, Lib.hid (Below.refl _ _), HC⟩
  case round =>
    obtain ⟨k, rfl, hk, hf, hre⟩ := hrel
    clear HC
    by_cases hk2 : (k : Int) < n
    · have hk3 : k < n := by omega
      obtain ⟨j, hj⟩ : ∃ j, j = n - 1 - k := ⟨_, rfl⟩
      have hjl : j < L.length := by have := HN.out; omega
      have hx : L[j]? = some L[j] := List.getElem?_eq_getElem hjl
      obtain ⟨b, off, rfl, _, hlt, h4⟩ := HR.out.at_ hx
      have c1 : wr.cell? ⟨b, off + j * 2 + 1, none⟩ = some (.string L[j].d) := by
        have := h4 1 _ rfl
        rw [show off + j * DE.m + 1 = off + j * 2 + 1 by simp [DE]] at this
        rw [← this]
        exact hf.out.cell (p := ⟨b, _, none⟩) hlt
      have hsz := HD.out L[j] (List.getElem_mem hjl)
      have hcons : (L.reverse.map (·.d)).drop k = L[j].d :: (L.reverse.map (·.d)).drop (k + 1) := by
        have hl : k < (L.reverse.map (·.d)).length := by rw [List.length_map, List.length_reverse]; have := HN.out; omega
        rw [List.drop_eq_getElem_cons hl, List.getElem_map, List.getElem_reverse]
        have : L.length - 1 - k = j := by have := HN.out; omega
        simp only [this]
      rw [hcons] at hre
      have hl2 : L[j].d.data.toList.length ≤ 281474976710656 := by
        rw [show L[j].d.data.toList.length = L[j].d.size by simp only [Array.length_toList]; rfl]
        exact hsz
      have HDC := fun X => decodeO_any L[j].d.data.toList X hl2
      change ∀ X, Calls Try.prog 30 #[.string L[j].d] X _ at HDC
      unfold ofR isConf at hre
      have q1 : IntKind.i64.wrap ((n : Int) - 1) = ((n - 1 : Nat) : Int) := by rw [IntKind.wrap_i64]; omega
      have q2 : IntKind.i64.wrap (((n - 1 : Nat) : Int) - (k : Nat)) = ((j : Nat) : Int) := by rw [IntKind.wrap_i64]; omega
      have q3 : j < n := by have := HN.out; omega
      clear hx h4 hcons hsz hl2
      generalize L[j].d = d at *
      have HJ := Lib.hid hj
      clear hj hjl
      cases hok : okO d.data.toList with
      | false =>
        rw [hok] at hre HDC
        rw [if_neg (by decide), if_neg (by decide)] at HDC
        rw [Bool.false_and, if_neg (by decide)] at hre
        have HDD := Lib.hid HDC
        have HRE := Lib.hid hre
        clear hre HDC
        unfold Or.v oV zO at HDD
        go_wp2_with (go_at_call 30; (with_reducible refine (HDD.out _).mono ?_); rintro e w2 ⟨rfl, hb2⟩)
        all_goals exact ⟨⟨k + 1, rfl, by omega, Lib.hid ((hf.out.trans (hb2.mono hf.out.size)).alloc (by have := hf.out.size; have := hb2.size; omega) _), HRE⟩, by simp [numOf]; omega⟩
      | true =>
        rw [hok] at hre HDC
        rw [if_pos rfl, if_pos rfl] at HDC
        rw [Bool.true_and] at hre
        have HDD := Lib.hid HDC
        have HRE := Lib.hid hre
        clear hre HDC
        unfold Or.v oV at HDD
        generalize rdO d.data.toList = x at *
        obtain ⟨xk, xi, xq, xn, xo, xs, xt, xa, xb, xc, xm⟩ := x
        simp only at HRE HDD
        by_cases h4 : xk = 4
        · subst h4
          have e := HRE.out
          rw [if_pos (by decide)] at e
          subst e
          clear HRE
          go_wp2_with (go_at_call 30; (with_reducible refine (HDD.out _).mono ?_); rintro e w2 ⟨rfl, hb2⟩)
          all_goals
            go_ret
            exact ⟨rfl, (hf.out.trans (hb2.mono hf.out.size)).alloc (by have := hf.out.size; have := hb2.size; omega) _⟩
        · have g4 : decide (xk = 4) = false := decide_eq_false h4
          have e := HRE.out
          rw [if_neg (by simpa using h4)] at e
          clear HRE
          have HRE := Lib.hid e
          clear e
          go_wp2_with (go_at_call 30; (with_reducible refine (HDD.out _).mono ?_); rintro e w2 ⟨rfl, hb2⟩)
          all_goals exact ⟨⟨k + 1, rfl, by omega, Lib.hid ((hf.out.trans (hb2.mono hf.out.size)).alloc (by have := hf.out.size; have := hb2.size; omega) _), HRE⟩, by simp [numOf]; omega⟩
    · have hk3 : k = n := by omega
      have e := hre.out
      rw [List.drop_eq_nil_of_le (by rw [List.length_map, List.length_reverse]; have := HN.out; omega)] at e
      change re = m at e
      subst e
      clear hre
      go_wp2_with fail
      go_ret
      exact ⟨rfl, hf.out⟩
end Go.Proofs.Ytebacdegjmcnlaa
