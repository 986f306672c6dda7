/-
  The document's own answer on which order any data is, and on the members that entries tell: walked. Condition: each data has at most 2^48 bytes.
-/
import Derived.Test.YtebacdegjmcnlaaGreatQDc
namespace Go.Proofs.YtebacdegjmcnlaaGreat
set_option maxRecDepth 20000
open Go.RowKit Pl
set_option linter.unusedVariables false
theorem rdecC_z (l : List UInt8) (hs : l.length ≤ 281474976710656) : ∃ cn : Int, (cn ≠ 0 → (resC l).getD zT = zT) ∧ ∀ X, Calls Tryz.prog 25 #[.string (Nm.str l)] X fun e Y => e = .returned (.tuple #[vC7 ((resC l).getD zT), .int .i64 cn]) ∧ Below X.heap.size X Y := by
  cases h : resC l with
  | none =>
    refine ⟨4, fun _ => rfl, fun X => (refDecC_any l X hs).mono ?_⟩
    rintro e Y ⟨he, hb⟩
    rw [h] at he
    exact ⟨he, hb⟩
  | some x =>
    refine ⟨0, fun h => absurd rfl h, fun X => (refDecC_any l X hs).mono ?_⟩
    rintro e Y ⟨he, hb⟩
    rw [h] at he
    exact ⟨he, hb⟩
theorem str_nonempty {l : List UInt8} (h : l ≠ []) : ((Nm.str l).toList == []) = false := by
  rw [beq_eq_false_iff_ne]
  intro e
  have e2 : (Nm.str l).toList = (Nm.str []).toList := e.trans (by rw [ByteArray.toList_eq]; rfl)
  exact h (str_inj ((toList_iff _ _).1 e2))
def Zv : Value := .agg #[.int .i64 0, .int .i64 0, .int .i64 0, .int .i64 0, .int .i64 0, .string ⟨#[]⟩, .string ⟨#[]⟩, .int .i64 0, .int .i64 0, .int .i64 0, .int .i64 0]
theorem dec1_of (l : List UInt8) (W : World) (A : Option Addr) (n C : Nat) (hb : BytesAt W W.heap.size A l) (hn : l.length = n) (hc : n ≤ C) (hcm : C ≤ 9223372036854775807) :
    Calls Tryz.prog 23 #[.slice A n C] W (Dec1 W (elsP (itemL l)) (if (dec l).isSome = true then 0 else 4)) := by
  refine (rdecode_any l A n C W hb hn hc hcm).mono ?_
  rintro e w1 ⟨hb1, hyes, hno⟩
  refine ⟨hb1, ?_⟩
  unfold itemL
  cases hd : dec l with
  | none =>
    obtain rfl := hno hd
    exact ⟨0, 0, ⟨#[]⟩, none, 0, rfl, by show AreIts _ _ [] _ _; rw [AreIts]; trivial⟩
  | some t =>
    obtain ⟨v, rfl, hv⟩ := hyes t hd
    obtain ⟨k, s, A, c, rfl, _, _, _, _, hal⟩ := IsIt.form hv
    exact ⟨k, _, s, A, c, rfl, hal⟩
theorem rDecodeO_any (l : List UInt8) (w : World) (hs : l.length ≤ 281474976710656) : Calls Tryz.prog 14 #[.string (Nm.str l)] w (RetBelow (.tuple #[if okO l = true then (rdO l).v else zO.v, .int .i64 (if okO l = true then 0 else 4)]) w) := by
  by_cases hl : l = []
  · subst hl
    rw [if_pos ok_empty, if_pos ok_empty, rd_empty]
    exact rdec_empty (Nm.str []) (by decide +kernel) w
  have hD := str_nonempty hl
  obtain ⟨C, W, h7, hby, hbl, hsz, hc, hcm⟩ := conv_any (w.alloc (.cells #[.int .i64 0, .int .i64 0, .int .i64 0, .int .i64 0, .int .i64 0, .string ⟨#[]⟩, .string ⟨#[]⟩, .int .i64 0, .int .i64 0, .int .i64 0, .int .i64 0] 34)) l hs
  have e0 : (w.alloc (.cells #[.int .i64 0, .int .i64 0, .int .i64 0, .int .i64 0, .int .i64 0, .string ⟨#[]⟩, .string ⟨#[]⟩, .int .i64 0, .int .i64 0, .int .i64 0, .int .i64 0] 34)).heap.size = w.heap.size + 1 := by simp
  rw [e0] at h7 hby hbl
  have hd1 := dec1_of l W _ l.length C hby rfl hc hcm
  by_cases hbad : (if (dec l).isSome = true then (0 : Int) else 4) ≠ 0 ∨ (elsP (itemL l)).length ≠ 5 ∨ (∃ x, (elsP (itemL l))[0]? = some x ∧ ¬ (1 ≤ numP x ∧ numP x ≤ 5))
  · have hok : okO l = false := by
      rcases hbad with h | h | ⟨x, hx, h⟩
      · refine ok_none hl ?_
        cases hd : dec l with
        | none => rfl
        | some t => rw [hd] at h; exact absurd rfl h
      · cases hd : dec l with
        | none => exact ok_none hl hd
        | some t =>
          refine ok_len hl hd ?_
          unfold itemL at h
          rw [hd] at h
          exact h
      · refine ok_kind hl ?_
        unfold rdN
        rw [part_at hx]
        exact h
    rw [hok, if_neg (by decide), if_neg (by decide)]
    exact rdec_bad (Nm.str l) l.length C _ _ w W hD hbad h7 (Lib.hid hbl) (Lib.hid hd1)
  · have h1 : (if (dec l).isSome = true then (0 : Int) else 4) = 0 := Classical.byContradiction fun h => hbad (.inl h)
    have h2 : (elsP (itemL l)).length = 5 := Classical.byContradiction fun h => hbad (.inr (.inl h))
    have h3 : ∀ x, (elsP (itemL l))[0]? = some x → 1 ≤ numP x ∧ numP x ≤ 5 := fun x hx => Classical.byContradiction fun h => hbad (.inr (.inr ⟨x, hx, h⟩))
    rw [h1] at hd1
    obtain ⟨els, he⟩ : ∃ els, els = elsP (itemL l) := ⟨_, rfl⟩
    rw [← he] at hd1 h2 h3
    match els, h2, he, hd1, h3 with
    | [x0, x1, x2, x3, x4], _, he, hd1, h3 =>
      have p0 : part (itemL l) 0 = x0 := part_at (by rw [← he]; rfl)
      have p1 : part (itemL l) 1 = x1 := part_at (by rw [← he]; rfl)
      have p2 : part (itemL l) 2 = x2 := part_at (by rw [← he]; rfl)
      have p3 : part (itemL l) 3 = x3 := part_at (by rw [← he]; rfl)
      have p4 : part (itemL l) 4 = x4 := part_at (by rw [← he]; rfl)
      obtain ⟨cn, hcn, hC⟩ := rdecC_z (txP x4) (by rw [← p4]; exact txP_len l 4)
      have hf := rdO_fine l
      have hE : ∀ X, Calls Tryz.prog 26 #[(rdO l).v] X (RetBelow (.tuple #[.string (rdO l).enc, .int .i64 (rdO l).err]) X) := fun X =>
        rEncodeO_any _ _ _ _ _ _ _ _ _ _ _ X hf.k hf.i hf.q hf.n hf.o hf.s hf.t hf.a hf.b hf.c hf.m
      have hcd : rdC l = (resC (txP x4)).getD zT := by unfold rdC; rw [p4]
      have key := rdec_good (Nm.str l) l.length C x0 x1 x2 x3 x4 (rdN l 0) (rdN l 1) (rdN l 2) (rdN l 3) (rdO l).enc (rdO l).err (rdC l).1 (rdC l).2.1 (rdC l).2.2.1 (rdC l).2.2.2.1 (rdC l).2.2.2.2.1 (rdC l).2.2.2.2.2.1 (rdC l).2.2.2.2.2.2 cn w W hD (h3 x0 rfl) h7 (Lib.hid hbl) (Lib.hid hd1)
        (Lib.hid (by rw [hcd]; exact hC)) (fun h => by rw [hcd, hcn h]; rfl) (Lib.hid hE) ⟨by unfold rdN; rw [p0], by unfold rdN; rw [p1], by unfold rdN; rw [p2], by unfold rdN; rw [p3]⟩
      have hiff : okO l = true ↔ (rdO l).err = 0 ∧ (rdO l).enc = Nm.str l := by
        unfold okO
        rw [Bool.and_eq_true, beq_iff_eq, beq_ba]
      by_cases hk : okO l = true
      · rw [if_pos hk, if_pos hk]
        rw [if_pos (hiff.1 hk), if_pos (hiff.1 hk)] at key
        exact key
      · rw [if_neg hk, if_neg hk]
        rw [if_neg (fun h => hk (hiff.2 h)), if_neg (fun h => hk (hiff.2 h))] at key
        exact key
/-- the last entry that states members, read from the front -/
def ofF (m : Int) : List ByteArray → Int
  | [] => m
  | d :: r => ofF (if isConf d = true then (rdO d.data.toList).n else m) r
theorem ofF_append (m : Int) (a b : List ByteArray) : ofF m (a ++ b) = ofF (ofF m a) b := by
  induction a generalizing m with
  | nil => rfl
  | cons x r ih => exact ih _
theorem ofR_ofF (m : Int) (l : List ByteArray) : ofR m l.reverse = ofF m l := by
  obtain ⟨k, hk⟩ : ∃ k, k = l.reverse := ⟨_, rfl⟩
  have e : l = k.reverse := by rw [hk, List.reverse_reverse]
  rw [← hk, e]
  clear hk e
  induction k with
  | nil => rfl
  | cons x r ih =>
    rw [List.reverse_cons, ofF_append, ← ih]
    rfl
theorem conf_ofF (m : Int) (L : List En) : confOf m L = ofF m (L.map (·.d)) := by
  unfold confOf
  rw [List.map_reverse]
  exact ofR_ofF m _
set_option maxHeartbeats 2000000 in
theorem rOf_any {w : World} {H : Nat → Prop} {A : Option Addr} {n c : Nat} {L : List En} (m : Int) (hr : Rd DE w H A L) (hn : L.length = n) (hbig : n ≤ 4611686018427387904) (hd : ∀ x ∈ L, x.d.size ≤ 281474976710656) : Calls Tryz.prog 6 #[.int .i64 m, .slice A n c] w (RetBelow (.int .i64 (confOf m L)) w) := by
  rw [conf_ofF]
  have HR := Lib.hid hr
  have HN := Lib.hid hn
  have HD := Lib.hid hd
  have HC : Hid (ofF m (L.map (·.d)) = ofF m ((L.map (·.d)).drop 0)) := Lib.hid rfl
  generalize ofF m (L.map (·.d)) = re at *
  clear hr hd hn
  go_enter Tryz.func6, Tryz.ntmps6
  go_wp2_with fail
  go_loopw [0, 5] (fun v0 v5 wr => ∃ (k : Nat) (cur : Int), v0 = .int .i64 cur ∧ v5 = .int .i64 (k : Nat) ∧ k ≤ n ∧ Hid (Below w.heap.size w wr) ∧ Hid (re = ofF cur ((L.map (·.d)).drop k))) (fun _ v5 _ => n - (numOf v5).toNat)
  case atStart => exact ⟨0, m, rfl, rfl, by omega, Lib.hid (Below.refl _ _), HC⟩
  case round =>
    obtain ⟨k, cur, rfl, rfl, hk, hf, hre⟩ := hrel
    clear HC
    by_cases hk2 : (k : Int) < n
    · have hk3 : k < n := by omega
      have hjl : k < L.length := by have := HN.out; omega
      have hx : L[k]? = some L[k] := List.getElem?_eq_getElem hjl
      obtain ⟨b, off, rfl, _, hlt, h4⟩ := HR.out.at_ hx
      have c1 : wr.cell? ⟨b, off + k * 2 + 1, none⟩ = some (.string L[k].d) := by
        have := h4 1 _ rfl
        rw [show off + k * DE.m + 1 = off + k * 2 + 1 by simp [DE]] at this
        rw [← this]
        exact hf.out.cell (p := ⟨b, _, none⟩) hlt
      have hsz := HD.out L[k] (List.getElem_mem hjl)
      have hcons : (L.map (·.d)).drop k = L[k].d :: (L.map (·.d)).drop (k + 1) := by
        rw [List.drop_eq_getElem_cons (by rw [List.length_map]; exact hjl), List.getElem_map]
      rw [hcons] at hre
      have hl2 : L[k].d.data.toList.length ≤ 281474976710656 := by
        rw [show L[k].d.data.toList.length = L[k].d.size by simp only [Array.length_toList]; rfl]
        exact hsz
      have HDC := fun X => rDecodeO_any L[k].d.data.toList X hl2
      change ∀ X, Calls Tryz.prog 14 #[.string L[k].d] X _ at HDC
      unfold ofF isConf at hre
      clear hx h4 hcons hsz hl2
      generalize L[k].d = d at *
      cases hok : okO d.data.toList with
      | false =>
        rw [hok] at hre HDC
        rw [if_neg (by decide), if_neg (by decide)] at HDC
        rw [Bool.false_and, if_neg (by decide)] at hre
        have HDD := Lib.hid HDC
        have HRE := Lib.hid hre
        clear hre HDC
        unfold Or.v oV zO at HDD
        go_wp2_with (go_at_call 14; (with_reducible refine (HDD.out _).mono ?_); rintro e w2 ⟨rfl, hb2⟩)
        all_goals exact ⟨⟨k + 1, cur, rfl, rfl, by omega, Lib.hid ((hf.out.trans (hb2.mono hf.out.size)).alloc (by have := hf.out.size; have := hb2.size; omega) _), HRE⟩, by simp [numOf]; omega⟩
      | true =>
        rw [hok] at hre HDC
        rw [if_pos rfl, if_pos rfl] at HDC
        rw [Bool.true_and] at hre
        have HDD := Lib.hid HDC
        have HRE := Lib.hid hre
        clear hre HDC
        unfold Or.v oV at HDD
        generalize rdO d.data.toList = x at *
        obtain ⟨xk, xi, xq, xn, xo, xs, xt, xa, xb, xc, xm⟩ := x
        simp only at HRE HDD
        by_cases h4 : xk = 4
        · subst h4
          have e := HRE.out
          rw [if_pos (by decide)] at e
          clear HRE
          have HRE := Lib.hid e
          clear e
          go_wp2_with (go_at_call 14; (with_reducible refine (HDD.out _).mono ?_); rintro e w2 ⟨rfl, hb2⟩)
          all_goals exact ⟨⟨k + 1, xn, rfl, rfl, by omega, Lib.hid ((hf.out.trans (hb2.mono hf.out.size)).alloc (by have := hf.out.size; have := hb2.size; omega) _), HRE⟩, by simp [numOf]; omega⟩
        · have g4 : decide (xk = 4) = false := decide_eq_false h4
          have e := HRE.out
          rw [if_neg (by simpa using h4)] at e
          clear HRE
          have HRE := Lib.hid e
          clear e
          go_wp2_with (go_at_call 14; (with_reducible refine (HDD.out _).mono ?_); rintro e w2 ⟨rfl, hb2⟩)
          all_goals exact ⟨⟨k + 1, cur, rfl, rfl, by omega, Lib.hid ((hf.out.trans (hb2.mono hf.out.size)).alloc (by have := hf.out.size; have := hb2.size; omega) _), HRE⟩, by simp [numOf]; omega⟩
    · have hk3 : k = n := by omega
      have e := hre.out
      rw [List.drop_eq_nil_of_le (by rw [List.length_map]; have := HN.out; omega)] at e
      change re = cur at e
      subst e
      clear hre
      go_wp2_with fail
      go_ret
      exact ⟨rfl, hf.out⟩
end Go.Proofs.YtebacdegjmcnlaaGreat
