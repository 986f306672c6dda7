import Derived.Test.YtkhhmpcpcdadaaaRe
import Derived.Deep.QuietTactic
import Derived.BigQuiet
namespace Go.Proofs.Ytkhhmpcpcdadaaa
open Go.RowKit
set_option linter.unusedVariables false

theorem mkB0 (N : Nat) (h : N ≤ 281474976710656) (w : World) : (Instr.makeSlice 22 (.int .i64 0) (.int .i64 (N : Int))).run Try.prog w = .ok (.slice (some ⟨w.heap.size, 0, none⟩) 0 N) (w.alloc (.cells (vB (List.replicate N 0)).toArray 5)) := by
  obtain ⟨i5, hi5, hz0, hz1, hz2⟩ := info_parts info5
  have := run_make (P := Try.prog) w 22 5 i5 _ Try.underlying22 hi5 hz0 .i64 .i64 0 (N : Int) (by omega) (by omega) (by rw [hz2]; omega) (by omega)
  rw [hz1] at this
  have e : madeCells (Value.int .u8 0).cells N = (vB (List.replicate N 0)).toArray := by
    apply Array.ext'
    rw [show (Value.int .u8 0).cells = #[.int .u8 0] from rfl, toList_madeCells_one]
    simp [vB]
  rw [Int.toNat_natCast, Nat.mul_one, e] at this
  exact this
theorem own0 (w : World) (N : Nat) (hN : N ≤ 140737488355328) : OwnB (w.alloc (.cells (vB (List.replicate N 0)).toArray 5)) w.heap.size (.slice (some ⟨w.heap.size, 0, none⟩) 0 N) [] := by
  refine ⟨by simp [vB], .inr ⟨w.heap.size, N, _, rfl, Nat.le_refl _, heap_alloc_new w _, Nat.zero_le _, by simp only [maxLen]; omega, by simp [vB], ?_⟩⟩
  simp [vB]
/-- append of bytes that stand in memory, or of none -/
theorem wp_appBg {ops : Array Oper} {rest : List Oper} {o : Oper} {a : Act} {Q : Exit → Act → World → Prop} {w : World} (hgd : o.guard = none) (s x : Operand)
    (ho : o.op = .call { callee := .builtin .append, args := #[s, x], argTypes := #[22, 22] })
    (base : Nat) (v : Value) (l : List UInt8) (hs : a.eval s = v) (hown : OwnB w base v l) (A : Option Addr) (n c B : Nat) (bs : List UInt8) (hx : a.eval x = .slice A n c) (hA : A = none → c = 0) (hb : BytesAt w B A bs) (hn : bs.length = n) (hnc : n ≤ c)
    (hlen : l.length + n ≤ 140737488355328) (hbase : base ≤ w.heap.size)
    (h : ∀ v' w', OwnB w' base v' (l ++ bs) → w.grownBy w' v.ownBlock → wpList Try.prog ops Q rest (a.put o.dst v') w') : wpList Try.prog ops Q (o :: rest) a w := by
  obtain ⟨i5, hi5, hz0, hz1, hz2⟩ := info_parts info5
  cases A with
  | none =>
    have hc0 := hA rfl
    subst hc0
    obtain rfl : n = 0 := by omega
    have hbs : bs = [] := List.eq_nil_of_length_eq_zero hn
    subst hbs
    refine wpList_append_own_none hgd s x 22 ho base 5 i5 1 Try.underlying22 hi5 v l.length (vB l) hs hown hx (h v w ?_ ⟨rfl, rfl, rfl, Nat.le_refl _, fun _ _ _ => rfl⟩)
    rw [List.append_nil]; exact hown
  | some ad =>
    refine wpList_append_own w hgd s x 22 ho base 5 i5 _ 1 1 Try.underlying22 hi5 hz0 hz1 hz2 rfl (by omega) v l.length (vB l) hs hown ad n c (vB bs) hx (by rw [vB_length]; omega) ?_ (vB_oneCell _) (by simp only [maxLen]; omega) (by omega) hbase ?_
    · intro j u hu
      have hne : bs ≠ [] := fun e => by rw [e] at hu; simp [vB] at hu
      obtain ⟨b, off, h1, _, h3⟩ := hb hne
      injection h1 with h1
      subst h1
      simp only [vB, List.getElem?_map, Option.map_eq_some_iff] at hu
      obtain ⟨y, hy, rfl⟩ := hu
      have := h3 j y hy
      unfold Addr.add
      split
      · subst j; simpa using this
      · exact this
    · intro v' w' h2 h3 _
      refine h v' w' ?_ h3
      unfold OwnB
      rw [vB_append, List.length_append, hn]
      exact h2
def nine : List UInt8 := [1, 2, 3, 4, 5, 6, 7, 8, 9]
theorem OwnB.nil {w : World} {base n c : Nat} {A : Option Addr} {l : List UInt8} (h : OwnB w base (.slice A n c) l) : A = none → c = 0 := fun e => by
  subst e
  rcases h.2 with ⟨q, _⟩ | ⟨g, cap, cur, q, _⟩
  · injection q
  · injection q with q; cases q
theorem OwnB.parts {w : World} {base : Nat} {v : Value} {l : List UInt8} (h : OwnB w base v l) : ∃ A c, v = .slice A l.length c ∧ BytesAt w w.heap.size A l ∧ l.length ≤ c ∧ c ≤ 9223372036854775807 ∧ (A = none → c = 0) := by
  obtain ⟨A, c, h1, h2, h3, h4⟩ := h.form
  exact ⟨A, c, h1, h2, h3, h4, (h1 ▸ h).nil⟩

set_option maxRecDepth 20000 in
theorem law_puts (bs : List UInt8) (A : Option Addr) (m cm : Nat) (ps : List UInt8) (A2 : Option Addr) (n cn : Nat) (w : World) (h1 : ByArg w A m cm bs) (h2 : ByArg w A2 n cn ps) :
    Calls Try.prog 3 #[.slice A m cm, .slice A2 n cn] w (RetBelow (.bool true) w) := by
  have hmc := h1.le
  have hcm := h1.cap
  have hnc := h2.le
  have hcn := h2.cap
  have H1 := Lib.hid h1
  have H2 := Lib.hid h2
  clear h1 h2
  go_enter Try.func3, Try.ntmps3
  go_wp2_with fail
  refine (awake_any _).mono ?_
  rintro e w1 ⟨rfl, hb1⟩
  have B1 := Lib.hid hb1
  have I1 := Lib.hid (H1.out.below hb1)
  have I2 := Lib.hid (H2.out.below hb1)
  clear hb1 H1 H2
  by_cases q1 : 65536 < m
  · go_wp2_with fail
    go_ret
    exact ⟨rfl, B1.out⟩
  by_cases q2 : 65536 < n
  · go_wp2_with fail
    go_ret
    exact ⟨rfl, B1.out⟩
  obtain ⟨N, hN⟩ : ∃ N, N = m + 100 := ⟨_, rfl⟩
  have hNi : (m : Int) + 100 = (N : Int) := by omega
  have hmk := mkB0 N (by omega) w1
  have OW := Lib.hid (own0 w1 N (by omega))
  have BA := Lib.hid ((Below.refl w1.heap.size w1).alloc (Nat.le_refl _) (.cells (vB (List.replicate N 0)).toArray 5))
  have HB := Lib.hid (I1.out.at_.below BA.out)
  have IL := Lib.hid I1.out.len
  have IN := Lib.hid I1.out.nil
  have HNm := Lib.hid hN
  clear hN
  have hs : w1.heap.size ≤ (w1.alloc (.cells (vB (List.replicate N 0)).toArray 5)).heap.size := BA.out.size
  generalize w1.alloc (.cells (vB (List.replicate N 0)).toArray 5) = w2 at *
  go_wp2_with (first
    | (at_builtin; (refine wp_appB rfl (.tmp 23) (.tmp 24) rfl w1.heap.size _ [] rfl OW.out A m cm _ bs rfl IN.out HB.out IL.out hmc (by simp; omega) hs ?_); intro v3 w3 own3 bel3
       rw [List.nil_append] at own3
       obtain ⟨A3, c3, e3, hb3, h3, h3', hn3⟩ := own3.parts
       rw [IL.out] at e3 h3
       subst e3
       have O3 := Lib.hid own3
       have HB3 := Lib.hid hb3
       have HN3 := Lib.hid hn3
       have B3 := Lib.hid (BA.out.trans bel3)
       clear own3 bel3 hb3 hn3))
  have hs3 := B3.out.size
  have J1 := Lib.hid (I1.out.below B3.out)
  have J2 := Lib.hid (I2.out.below B3.out)
  by_cases hbig : 4096 < n
  · refine (put_no A3 A2 m c3 n cn w3 hbig (by omega)).mono ?_
    rintro e w4 ⟨rfl, rfl⟩
    go_wp2_with fail
    refine (refPut_no A A2 m cm n cn w3 hbig (by omega)).mono ?_
    rintro e w4 ⟨rfl, rfl⟩
    have ON := Lib.hid (O3.out.below ((Below.refl w3.heap.size w3).alloc (Nat.le_refl _) (.cells #[.int .u8 1, .int .u8 2, .int .u8 3, .int .u8 4, .int .u8 5, .int .u8 6, .int .u8 7, .int .u8 8, .int .u8 9] 5)))
    have HNI : Hid (BytesAt (w3.alloc (.cells #[.int .u8 1, .int .u8 2, .int .u8 3, .int .u8 4, .int .u8 5, .int .u8 6, .int .u8 7, .int .u8 8, .int .u8 9] 5)) (w3.heap.size + 1) (some ⟨w3.heap.size, 0, none⟩) nine) := Lib.hid (bytes_new w3 nine _ (by omega))
    have hsn : w1.heap.size ≤ (w3.alloc (.cells #[.int .u8 1, .int .u8 2, .int .u8 3, .int .u8 4, .int .u8 5, .int .u8 6, .int .u8 7, .int .u8 8, .int .u8 9] 5)).heap.size := by rw [World.size_alloc]; omega
    go_wp2_with (first
      | (at_builtin; (refine wp_appBg rfl (.tmp 38) (.tmp 39) rfl w1.heap.size _ bs rfl ON.out (some ⟨w3.heap.size, 0, none⟩) 9 9 _ nine rfl (fun e => by cases e) HNI.out rfl (by omega) (by rw [IL.out]; omega) hsn ?_); intro v9 w9 own9 gr9
         obtain ⟨A9, c9, e9, hb9, h9, h9', hn9⟩ := own9.parts
         rw [List.length_append, IL.out] at e9 h9
         have e9 : v9 = .slice A9 (m + 9) c9 := e9
         have h9 : m + 9 ≤ c9 := h9
         subst e9
         have HB9 := Lib.hid hb9
         have G9 := Lib.hid gr9
         clear own9 gr9 hb9 hn9))
    have B9 := Lib.hid (B3.out.trans (((Below.refl w1.heap.size w3).alloc (by omega) (.cells #[.int .u8 1, .int .u8 2, .int .u8 3, .int .u8 4, .int .u8 5, .int .u8 6, .int .u8 7, .int .u8 8, .int .u8 9] 5)).grown G9.out hsn fun k hk => (ON.out.lt k hk).1))
    have B10 := Lib.hid (B1.out.trans (B9.out.mono B1.out.size))
    have hcv3 : ∀ q, Sem.run Try.prog (convert 22 9 (.slice A9 m c9)) (w9.drewN q) = .ok (.string ⟨bs.toArray⟩) (w9.drewN q) := fun q => by
      have h := (HB9.out.take m).keep (w' := w9.drewN q) fun _ _ => rfl
      rw [List.take_append_of_le_length (by rw [IL.out]; omega), List.take_of_length_le (by rw [IL.out]; omega)] at h
      exact conv_str h m c9 IL.out
    have hcv4 : ∀ q, Sem.run Try.prog (convert 22 9 (.slice A m cm)) (w9.drewN q) = .ok (.string ⟨bs.toArray⟩) (w9.drewN q) := fun q =>
      conv_str ((I1.out.at_.below B9.out).keep (w' := w9.drewN q) fun _ _ => rfl) m cm IL.out
    have hmc9 : (m : Int) ≤ c9 := by omega
    have hm0 : (0 : Int) ≤ (m : Int) := by omega
    have hcv1 : ∀ q, Sem.run Try.prog (convert 22 9 (.slice none 0 0)) (w9.drewN q) = .ok (.string ⟨#[]⟩) (w9.drewN q) := fun q =>
      conv_str (BytesAt.nil _ 0 none) 0 0 rfl
    go_quiet (fail)
    go_wp2_with fail
    go_ret
    exact ⟨by simp, B10.out.trans ⟨rfl, rfl, rfl, Nat.le_refl _, fun _ _ => rfl⟩⟩
  · refine (put_any bs ps A3 A2 m c3 n cn w3 HB3.out IL.out (by omega) h3 h3' J2.out.at_ J2.out.len (by omega) hnc hcn).mono ?_
    rintro e w4 ⟨rfl, row4, bel4⟩
    have RB4 := Lib.hid row4
    have B4 := Lib.hid (B3.out.trans (bel4.mono hs3))
    have K1 := Lib.hid (J1.out.below bel4)
    have K2 := Lib.hid (J2.out.below bel4)
    have O4 := Lib.hid (O3.out.below bel4)
    have hs4 := bel4.size
    have hlz : ((bs ++ Fr.rcd ps).length) = m + (8 + n) := by rw [List.length_append, Fr.rcd_length, IL.out, J2.out.len]
    have HLZ := Lib.hid hlz
    rw [hlz]
    clear row4 bel4 hlz
    go_wp2_with fail
    refine (refPut_any bs ps A A2 m cm n cn w4 K1.out.at_ IL.out (by omega) hmc hcm IN.out K2.out.at_ K2.out.len (by omega) hnc hcn K2.out.nil).mono ?_
    rintro e w5 ⟨Ad, cd, rfl, own5, bel5⟩
    rw [HLZ.out] at own5 ⊢
    have O5 := Lib.hid (O4.out.below bel5)
    have OD := Lib.hid own5
    have RB5 := Lib.hid (RB4.out.below bel5 RB4.out.lt)
    have B5 := Lib.hid (B4.out.trans (bel5.mono (by omega)))
    have hs5 := bel5.size
    clear own5 bel5
    have ON := Lib.hid (O5.out.below ((Below.refl w5.heap.size w5).alloc (Nat.le_refl _) (.cells #[.int .u8 1, .int .u8 2, .int .u8 3, .int .u8 4, .int .u8 5, .int .u8 6, .int .u8 7, .int .u8 8, .int .u8 9] 5)))
    have HNI : Hid (BytesAt (w5.alloc (.cells #[.int .u8 1, .int .u8 2, .int .u8 3, .int .u8 4, .int .u8 5, .int .u8 6, .int .u8 7, .int .u8 8, .int .u8 9] 5)) (w5.heap.size + 1) (some ⟨w5.heap.size, 0, none⟩) nine) := Lib.hid (bytes_new w5 nine _ (by omega))
    have hsn : w1.heap.size ≤ (w5.alloc (.cells #[.int .u8 1, .int .u8 2, .int .u8 3, .int .u8 4, .int .u8 5, .int .u8 6, .int .u8 7, .int .u8 8, .int .u8 9] 5)).heap.size := by rw [World.size_alloc]; omega
    go_wp2_with (first
      | (at_builtin; (refine wp_appBg rfl (.tmp 38) (.tmp 39) rfl w1.heap.size _ bs rfl ON.out (some ⟨w5.heap.size, 0, none⟩) 9 9 _ nine rfl (fun e => by cases e) HNI.out rfl (by omega) (by rw [IL.out]; omega) hsn ?_); intro v9 w9 own9 gr9
         obtain ⟨A9, c9, e9, hb9, h9, h9', hn9⟩ := own9.parts
         rw [List.length_append, IL.out] at e9 h9
         have e9 : v9 = .slice A9 (m + 9) c9 := e9
         have h9 : m + 9 ≤ c9 := h9
         subst e9
         have HB9 := Lib.hid hb9
         have G9 := Lib.hid gr9
         clear own9 gr9 hb9 hn9))
    have B9 := Lib.hid (B5.out.trans (((Below.refl w1.heap.size w5).alloc (by omega) (.cells #[.int .u8 1, .int .u8 2, .int .u8 3, .int .u8 4, .int .u8 5, .int .u8 6, .int .u8 7, .int .u8 8, .int .u8 9] 5)).grown G9.out hsn fun k hk => (ON.out.lt k hk).1))
    have B10 := Lib.hid (B1.out.trans (B9.out.mono B1.out.size))
    have hcv3 : ∀ q, Sem.run Try.prog (convert 22 9 (.slice A9 m c9)) (w9.drewN q) = .ok (.string ⟨bs.toArray⟩) (w9.drewN q) := fun q => by
      have h := (HB9.out.take m).keep (w' := w9.drewN q) fun _ _ => rfl
      rw [List.take_append_of_le_length (by rw [IL.out]; omega), List.take_of_length_le (by rw [IL.out]; omega)] at h
      exact conv_str h m c9 IL.out
    have hcv4 : ∀ q, Sem.run Try.prog (convert 22 9 (.slice A m cm)) (w9.drewN q) = .ok (.string ⟨bs.toArray⟩) (w9.drewN q) := fun q =>
      conv_str ((I1.out.at_.below B9.out).keep (w' := w9.drewN q) fun _ _ => rfl) m cm IL.out
    have hmc9 : (m : Int) ≤ c9 := by omega
    have hm0 : (0 : Int) ≤ (m : Int) := by omega
    have hown : ∀ k, (Value.slice A3 m c3).ownBlock = some k → k < w3.heap.size := fun k hk => (O3.out.lt k hk).2
    have RB9 : RowIs w9 w3.heap.size (bs ++ Fr.rcd ps) := by
      have r5 := RB5.out.below ((Below.refl w5.heap.size w5).alloc (Nat.le_refl _) (.cells #[.int .u8 1, .int .u8 2, .int .u8 3, .int .u8 4, .int .u8 5, .int .u8 6, .int .u8 7, .int .u8 8, .int .u8 9] 5)) RB5.out.lt
      refine r5.keep (G9.out.block _ r5.lt fun e => ?_)
      have := hown _ e.symm
      omega
    have OD9 : OwnB w9 w4.heap.size (.slice Ad (m + (8 + n)) cd) (bs ++ Fr.rcd ps) := by
      have r5 := OD.out.below ((Below.refl w5.heap.size w5).alloc (Nat.le_refl _) (.cells #[.int .u8 1, .int .u8 2, .int .u8 3, .int .u8 4, .int .u8 5, .int .u8 6, .int .u8 7, .int .u8 8, .int .u8 9] 5))
      refine r5.keep fun g hg => G9.out.block _ (r5.lt g hg).2 fun e => ?_
      have h1 := hown _ e.symm
      have h2 := (r5.lt g hg).1
      omega
    have hcv1 : ∀ q, Sem.run Try.prog (convert 22 9 (.slice (some ⟨w3.heap.size, 0, none⟩) (m + (8 + n)) (m + (8 + n)))) (w9.drewN q) = .ok (.string ⟨(bs ++ Fr.rcd ps).toArray⟩) (w9.drewN q) := fun q => by
      have h := RB9.bytes (B := w9.heap.size) RB9.lt 0
      rw [List.drop_zero] at h
      exact conv_str (h.keep (w' := w9.drewN q) fun _ _ => rfl) _ _ HLZ.out
    have hcv2 : ∀ q, Sem.run Try.prog (convert 22 9 (.slice Ad (m + (8 + n)) cd)) (w9.drewN q) = .ok (.string ⟨(bs ++ Fr.rcd ps).toArray⟩) (w9.drewN q) := fun q => by
      obtain ⟨x, y, e, h, _⟩ := OD9.form
      rw [HLZ.out] at e
      injection e with e1 e2 e3
      subst e1
      exact conv_str (h.keep (w' := w9.drewN q) fun _ _ => rfl) _ _ HLZ.out
    clear RB9 OD9 hown
    generalize bs ++ Fr.rcd ps = X at *
    go_quiet (fail)
    go_wp2_with fail
    go_ret
    exact ⟨by simp, B10.out.trans ⟨rfl, rfl, rfl, Nat.le_refl _, fun _ _ => rfl⟩⟩
end Go.Proofs.Ytkhhmpcpcdadaaa
