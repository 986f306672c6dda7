import Derived.Test.YtphclpjekpdifaaGreatYS
import Derived.Test.YtphclpjekpdifaaGreatYM
import Derived.Test.YtphclpjekpdifaaGreatYN
import Derived.Test.YtphclpjekpdifaaGreatYO
namespace Go.Proofs.YtphclpjekpdifaaGreat
set_option maxRecDepth 20000
open Go.RowKit
open PS (Tx putM dropM setM findM Nod Ten Jb kOf)
open Go.Proofs.YtphclpjekpdifaaGreat.Nm (str)
open Go.Proofs.YtphclpjekpdifaaGreat.Vc (RetBelow)
set_option linter.unusedVariables false
def ByN (l : List (Tx × Nod)) (w : World) (e : Ending) (w' : World) : Prop := ∃ v, e = .returned v ∧ Own DN w' w.heap.size v (PS.byName l) ∧ Below w.heap.size w w'
set_option maxHeartbeats 1000000 in
theorem byN_nil {b o : Nat} (w : World) (hc : w.cell? ⟨b, o, none⟩ = some (.map none)) : Calls Tryz.prog 45 #[.pointer (some ⟨b, o, none⟩)] w (ByN [] w) := by
  have hr := run_range_nilMap (P := Tryz.prog) w 81 9 99 Tryz.underlying81
  have hnx : ∀ ty, (Instr.next (.pointer (some ⟨w.heap.size, 0, none⟩)) false ty).run Tryz.prog (w.alloc (.mapIter none 0 #[] 0)) = _ := fun ty => run_next_nilMap w ty 0 0 #[]
  have HS := Lib.hid (fun W => sort_nokeys W none 0)
  go_enter Tryz.func45, Tryz.ntmps45
  go_wp2_with fail
  refine wp_loop_rounds 1 ?_
  rw [rounds_succ]
  go_wp2_with (go_at_call 92; (with_reducible refine (HS.out _).mono ?_); rintro e w1 ⟨rfl, rfl⟩)
  refine wp_loop_rounds 1 ?_
  rw [rounds_succ]
  go_wp2_with fail
  go_ret
  exact ⟨_, rfl, Own.nil _ _ _, (Below.refl _ _).alloc (Nat.le_refl _) _⟩
set_option maxHeartbeats 4000000 in
theorem byN_some {b o m : Nat} {l : List (Tx × Nod)} (w : World) (hc : w.cell? ⟨b, o, none⟩ = some (.map (some m))) (hm : MapAt nodV w m l) (hl : l.length ≤ 1000) (hk : ∀ e ∈ l, e.1.length ≤ 1000000 ∧ Nm.Pl.okay e.1 = true) :
    Calls Tryz.prog 45 #[.pointer (some ⟨b, o, none⟩)] w (ByN l w) := by
  have HC := Lib.hid (fun X (hX : Below w.heap.size w X) => cellB hc hX (lt_of_cell hc))
  have HM := Lib.hid hm
  have HLK := Lib.hid (fun X (hX : Below w.heap.size w X) (k : Tx) (hn : k.length ≤ 1000000) => (hm.keep (hX.block m hm.lt)).look1 (t := 81) (e := 99) Tryz.underlying81 (zero_N X) (k := k) (by simp only [maxLen]; omega))
  have HZ := Lib.hid (size_enc nodV l)
  have HL := Lib.hid hl
  have HKY := Lib.hid (enc_keys nodV l)
  have hko : ∀ k ∈ l.map (·.1), k.length ≤ 1000000 ∧ Nm.Pl.okay k = true := fun k hk' => by
    obtain ⟨e, he, rfl⟩ := List.mem_map.1 hk'
    exact hk e he
  have HKO := Lib.hid hko
  have HFS := Lib.hid (fun k (h : k ∈ l.map (·.1)) => find_some h)
  have HBN := Lib.hid (show PS.byName l = (PS.sortK (l.map (·.1))).filterMap (findM l) from rfl)
  have HKL : Hid ((l.map (·.1)).length ≤ 1000) := Lib.hid (by rw [List.length_map]; exact hl)
  unfold ByN
  generalize PS.byName l = RES at *
  generalize l.map (·.1) = ks at *
  clear hm hl hk hko
  go_enter Tryz.func45, Tryz.ntmps45
  go_wp2_with (first | (at_range; refine wpList_range_own _ rfl _ 81 rfl 9 99 law9 Tryz.underlying81 R0 m l.length (encM nodV l) rfl HM.out ?_; intro w0 hrg0 hg0 hs0) | go_in)
  go_frame
  have hbw0 : Below w.heap.size w w0 := (Below.refl _ w).grown hg0 (Nat.le_refl _) (fun k hk => by cases hk)
  have HB0 := Lib.hid hbw0
  have HR0 := Lib.hid hrg0
  clear hg0 hs0 hbw0 hrg0
  go_loopw [3] (fun lV wr => ∃ (v : Value) (ss : List Tx) (left : Lit → Bool) (cnt : Nat), v = lV ∧ Own DK wr (w.heap.size + 1) v ss ∧ Rng nodV wr m w.heap.size l.length l left cnt ∧ Collected (encM nodV l) left ss ∧ ss.length + cnt ≤ l.length ∧ Below w.heap.size w wr ∧ w.heap.size + 1 ≤ wr.heap.size) (fun _ wr => wr.rangeLeft m w.heap.size)
  case atStart => exact ⟨_, [], _, _, rfl, Own.nil _ _ _, HR0.out, Collected.start _, by rw [HZ.out]; simp, HB0.out, HR0.out.lt⟩
  case round =>
    obtain ⟨v, ss, left, cnt, rfl, hown, hrg, hcol, hsum, hbw, hz⟩ := hrel
    have HW := Lib.hid hbw
    have HR := Lib.hid hrg
    have HO := Lib.hid hown
    have HCo := Lib.hid hcol
    have HSM := Lib.hid hsum
    clear HB0 HR0 hbw hrg hsum hown hcol
    go_wp2_with (at_next; refine wp_next_things rfl _ rfl m w.heap.size l.length l left cnt rfl HR.out ?_ ?_)
    · intro hlf
      have hperm := HCo.out.perm HR.out.owns law9 Tryz.underlying9 hlf
      rw [HKY.out] at hperm
      have hlen : ss.length ≤ 1000 := by rw [hperm.length_eq]; exact HKL.out
      have HP := Lib.hid hperm
      have HLN := Lib.hid hlen
      clear hperm hlf
      by_cases hne : ss = []
      · subst hne
        have hks : ks = [] := List.nil_perm.1 HP.out
        obtain ⟨A, cap, rfl, _, _, _⟩ := HO.out.form
        have HN := Lib.hid (fun W => sort_nokeys W A cap)
        have HRS : Hid (RES = []) := Lib.hid (by rw [HBN.out, hks]; rfl)
        clear hks HKO HFS HKL HP hlen HLN HO HCo
        go_wp2_with (go_at_call 92; (with_reducible refine (HN.out _).mono ?_); rintro e w1 ⟨rfl, rfl⟩)
        refine wp_loop_rounds 1 ?_
        rw [rounds_succ]
        go_wp2_with fail
        go_ret
        exact ⟨_, rfl, HRS.out ▸ Own.nil _ _ _, HW.out⟩
      · obtain ⟨g, cap, rfl, hbg, hg, hob, hrow⟩ := HO.out.rowK hne
        have HS := Lib.hid (sort_keys wr g cap ss (fun k hk => (HKO.out k (HP.out.mem_iff.1 hk)).1) hrow hg (by omega))
        have HGB := Lib.hid hbg
        have HG := Lib.hid hg
        obtain ⟨N, hN⟩ : ∃ N, N = ss.length := ⟨_, rfl⟩
        rw [← hN] at HS hlen ⊢
        have HNN := Lib.hid hN
        clear hrow hob hbg hg hne HO HCo hN
        go_wp2_with (go_at_call 92; (with_reducible refine HS.out.mono ?_); rintro e w2 ⟨rfl, d, hp2, hs2, hc2, hz2, hb2, _⟩)
        have hd : d = PS.sortK ks := sorted_is (fun k hk => (HKO.out k hk).2) (hp2.trans HP.out) hs2
        have hdn : d.length = N := by rw [hp2.length_eq]; exact HNN.out.symm
        have HD := Lib.hid hd
        have HDN := Lib.hid hdn
        have HC2 := Lib.hid hc2
        have HB2 := Lib.hid (HW.out.trans (hb2 w.heap.size (by have := HGB.out; omega)))
        have HG2 := Lib.hid (Nat.lt_of_lt_of_le HG.out hz2)
        have HMEM := Lib.hid (fun k (hk : k ∈ d) => (hp2.trans HP.out).mem_iff.1 hk)
        clear hp2 hs2 hc2 hz2 hb2 hd hdn HS
        go_loopw [5, 7, 25] (fun lV kV iV wr => ∃ (v : Value) (j : Nat), v = lV ∧ j ≤ N ∧ iV = .int .i64 j ∧ Own DN wr w2.heap.size v ((d.take j).filterMap (findM l)) ∧ Below w2.heap.size w2 wr) (fun _ _ iV _ => N - (intOf iV).toNat)
        case atStart => exact ⟨_, 0, rfl, Nat.zero_le _, rfl, Own.nil _ _ _, Below.refl _ _⟩
        case round =>
          obtain ⟨v, j, rfl, hj, rfl, hown, hbw⟩ := hrel
          have HBW := Lib.hid hbw
          have HO := Lib.hid hown
          have hb3 := HB2.out.trans (hbw.mono HB2.out.size)
          have HB3 := Lib.hid hb3
          clear hown hbw
          by_cases hlt : j < N
          · have hjd : j < d.length := by rw [HDN.out]; exact hlt
            obtain ⟨key, hkey⟩ : ∃ key, d[j]? = some key := ⟨_, List.getElem?_eq_getElem hjd⟩
            have hmem := HMEM.out key (List.mem_of_getElem? hkey)
            obtain ⟨x, hx⟩ := HFS.out key hmem
            have hck : wr.cell? ⟨g, j, none⟩ = some (.string (str key)) := cellB (HC2.out j key hkey) HBW.out HG2.out
            have hcb := HC.out _ HB3.out
            have hlk : (Instr.lookup 81 (.map (some m)) (.string (str key)) false).run Tryz.prog wr = .ok (.agg #[.string (str x.s), .int .i64 x.a, .int .i64 x.b, .int .i64 x.c, .int .i64 x.x, .int .i64 x.y, .int .i64 x.z, .int .i64 x.n, .bool x.d]) wr := by
              have := HLK.out wr HB3.out key (HKO.out key hmem).1
              rw [hx] at this
              exact this
            have HST := Lib.hid (filterMap_step hkey hx)
            have HFL : Hid (((d.take j).filterMap (findM l)).length ≤ 1000) := Lib.hid (Nat.le_trans (List.length_filterMap_le _ _) (by rw [List.length_take]; omega))
            have HSZ := Lib.hid HBW.out.size
            generalize str key = KS at *
            clear hkey hmem hx hjd hb3
            go_wp2_with (at_builtin; (refine wp_appX DN rfl (.tmp 29) (.tmp 36) rfl w2.heap.size v _ rfl (HO.out.keep fun g hg => Below.heap_alloc wr _ g (HO.out.lt hg).2) (some ⟨wr.heap.size, 0, none⟩) 1 1 (wr.heap.size + 1) [x] rfl (fun h => by cases h) ?hk rfl (Nat.le_refl _) ?hln ?hbs ?_))
            case hk => exact (Rws.box (D := DN) (heap_alloc_new wr _)).mono (by simp)
            case hln => have := HFL.out; omega
            case hbs => simp; have := HSZ.out; omega
            intro v' w3 hown3 hgrow _
            have HO3 := Lib.hid hown3
            have HB4 := Lib.hid ((HBW.out.alloc HSZ.out (.cells #[.string (str x.s), .int .i64 x.a, .int .i64 x.b, .int .i64 x.c, .int .i64 x.x, .int .i64 x.y, .int .i64 x.z, .int .i64 x.n, .bool x.d] 99)).grown hgrow (by simp; have := HSZ.out; omega) (fun k hk => (HO.out.lt hk).1))
            clear hown3 hgrow
            go_wp2_with fail
            go_roundw
            case rel => exact ⟨v', j + 1, rfl, by omega, by go_num, HST.out ▸ HO3.out, HB4.out⟩
            case measure => simp [intOf]; omega
          · go_wp2_with fail
            go_ret
            refine ⟨v, rfl, ?_, HB3.out⟩
            have hjN : j = N := by omega
            have e1 : RES = (d.take j).filterMap (findM l) := by rw [HBN.out, ← HD.out, hjN, ← HDN.out, List.take_length]
            rw [e1]
            exact HO.out.mono HB2.out.size
    · intro key x w1 cnt1 hp hlk hx hrg1 hlt hg1 hs1 hen
      have hcol1 : Collected (encM nodV l) (strike left key) (ss ++ [key]) := HCo.out.step hlk (at_any hp)
      have hbw1 : Below w.heap.size w w1 := HW.out.grown hg1 HW.out.size (fun k hk => by cases hk; exact Nat.le_refl _)
      have hne : v.ownBlock ≠ some w.heap.size := fun e => by have := (HO.out.lt e).1; omega
      have hown1 : Own DK w1 (w.heap.size + 1) v ss := HO.out.keep fun g hg => hg1.block g (HO.out.lt hg).2 (fun e => hne (hg.trans (by rw [e])))
      have hmne : some m ≠ v.ownBlock := fun e => by have := (HO.out.lt e.symm).1; have := HM.out.lt; omega
      have hrne : some w.heap.size ≠ v.ownBlock := fun e => hne e.symm
      have hln : ss.length ≤ 1000 := by have := HSM.out; have := HL.out; omega
      have hz1 : w.heap.size + 1 ≤ w1.heap.size := by omega
      have HR1 := Lib.hid hrg1
      have HB1 := Lib.hid hbw1
      have HO1 := Lib.hid hown1
      have HC1 := Lib.hid hcol1
      have HE := Lib.hid hlt
      have HLN := Lib.hid hln
      have HNE := Lib.hid (And.intro hmne hrne)
      clear hrg1 hbw1 hg1 hs1 hlt hlk hcol1 hown1 hne hmne hrne hln hp
      go_wp2_with (at_builtin; (refine wp_appX DK rfl (.tmp 17) (.tmp 19) rfl (w.heap.size + 1) v ss rfl (HO1.out.keep fun g hg => Below.heap_alloc w1 _ g (HO1.out.lt hg).2) (some ⟨w1.heap.size, 0, none⟩) 1 1 (w1.heap.size + 1) [key] rfl (fun h => by cases h) ?hk rfl (Nat.le_refl _) ?hln ?hbs ?_))
      case hk => exact (Rws.box (heap_alloc_new w1 _)).mono (by simp)
      case hln => have := HLN.out; omega
      case hbs => simp; omega
      intro v' w2 hown2 hgrow _
      have hrg2 := (World.ranges.alloc HR1.out _).kept hgrow HNE.out.1 HNE.out.2
      have hbw2 : Below w.heap.size w w2 := (HB1.out.alloc HB1.out.size _).grown hgrow (by have := HB1.out.size; simp; omega) (fun k hk => by have := (HO1.out.lt hk).1; omega)
      have hz2 : w.heap.size + 1 ≤ w2.heap.size := by have := hgrow.size; simp at this; omega
      have HR2 := Lib.hid hrg2
      have HB2 := Lib.hid hbw2
      have HO2 := Lib.hid hown2
      clear hrg2 hbw2 hown2 hgrow
      go_wp2_with fail
      go_roundw
      case rel => exact ⟨v', _, _, _, rfl, HO2.out, HR2.out, HC1.out, by rw [List.length_append]; have := HSM.out; have := HE.out; simp; omega, HB2.out, hz2⟩
      case measure =>
        rw [HR2.out.left_eq, HR.out.left_eq]
        exact HE.out
def ByT (l : List (Tx × Ten)) (w : World) (e : Ending) (w' : World) : Prop := ∃ v, e = .returned v ∧ Own DT w' w.heap.size v (PS.byName l) ∧ Below w.heap.size w w'
set_option maxHeartbeats 1000000 in
theorem byT_nil {b o : Nat} (w : World) (hc : w.cell? ⟨b, o, none⟩ = some (.map none)) : Calls Tryz.prog 47 #[.pointer (some ⟨b, o, none⟩)] w (ByT [] w) := by
  have hr := run_range_nilMap (P := Tryz.prog) w 84 9 104 Tryz.underlying84
  have hnx : ∀ ty, (Instr.next (.pointer (some ⟨w.heap.size, 0, none⟩)) false ty).run Tryz.prog (w.alloc (.mapIter none 0 #[] 0)) = _ := fun ty => run_next_nilMap w ty 0 0 #[]
  have HS := Lib.hid (fun W => sort_nokeys W none 0)
  go_enter Tryz.func47, Tryz.ntmps47
  go_wp2_with fail
  refine wp_loop_rounds 1 ?_
  rw [rounds_succ]
  go_wp2_with (go_at_call 92; (with_reducible refine (HS.out _).mono ?_); rintro e w1 ⟨rfl, rfl⟩)
  refine wp_loop_rounds 1 ?_
  rw [rounds_succ]
  go_wp2_with fail
  go_ret
  exact ⟨_, rfl, Own.nil _ _ _, (Below.refl _ _).alloc (Nat.le_refl _) _⟩
set_option maxHeartbeats 4000000 in
theorem byT_some {b o m : Nat} {l : List (Tx × Ten)} (w : World) (hc : w.cell? ⟨b, o, none⟩ = some (.map (some m))) (hm : MapAt tenV w m l) (hl : l.length ≤ 1000) (hk : ∀ e ∈ l, e.1.length ≤ 1000000 ∧ Nm.Pl.okay e.1 = true) :
    Calls Tryz.prog 47 #[.pointer (some ⟨b, o, none⟩)] w (ByT l w) := by
  have HC := Lib.hid (fun X (hX : Below w.heap.size w X) => cellB hc hX (lt_of_cell hc))
  have HM := Lib.hid hm
  have HLK := Lib.hid (fun X (hX : Below w.heap.size w X) (k : Tx) (hn : k.length ≤ 1000000) => (hm.keep (hX.block m hm.lt)).look1 (t := 84) (e := 104) Tryz.underlying84 (zero_T X) (k := k) (by simp only [maxLen]; omega))
  have HZ := Lib.hid (size_enc tenV l)
  have HL := Lib.hid hl
  have HKY := Lib.hid (enc_keys tenV l)
  have hko : ∀ k ∈ l.map (·.1), k.length ≤ 1000000 ∧ Nm.Pl.okay k = true := fun k hk' => by
    obtain ⟨e, he, rfl⟩ := List.mem_map.1 hk'
    exact hk e he
  have HKO := Lib.hid hko
  have HFS := Lib.hid (fun k (h : k ∈ l.map (·.1)) => find_some h)
  have HBN := Lib.hid (show PS.byName l = (PS.sortK (l.map (·.1))).filterMap (findM l) from rfl)
  have HKL : Hid ((l.map (·.1)).length ≤ 1000) := Lib.hid (by rw [List.length_map]; exact hl)
  unfold ByT
  generalize PS.byName l = RES at *
  generalize l.map (·.1) = ks at *
  clear hm hl hk hko
  go_enter Tryz.func47, Tryz.ntmps47
  go_wp2_with (first | (at_range; refine wpList_range_own _ rfl _ 84 rfl 9 104 law9 Tryz.underlying84 R0 m l.length (encM tenV l) rfl HM.out ?_; intro w0 hrg0 hg0 hs0) | go_in)
  go_frame
  have hbw0 : Below w.heap.size w w0 := (Below.refl _ w).grown hg0 (Nat.le_refl _) (fun k hk => by cases hk)
  have HB0 := Lib.hid hbw0
  have HR0 := Lib.hid hrg0
  clear hg0 hs0 hbw0 hrg0
  go_loopw [3] (fun lV wr => ∃ (v : Value) (ss : List Tx) (left : Lit → Bool) (cnt : Nat), v = lV ∧ Own DK wr (w.heap.size + 1) v ss ∧ Rng tenV wr m w.heap.size l.length l left cnt ∧ Collected (encM tenV l) left ss ∧ ss.length + cnt ≤ l.length ∧ Below w.heap.size w wr ∧ w.heap.size + 1 ≤ wr.heap.size) (fun _ wr => wr.rangeLeft m w.heap.size)
  case atStart => exact ⟨_, [], _, _, rfl, Own.nil _ _ _, HR0.out, Collected.start _, by rw [HZ.out]; simp, HB0.out, HR0.out.lt⟩
  case round =>
    obtain ⟨v, ss, left, cnt, rfl, hown, hrg, hcol, hsum, hbw, hz⟩ := hrel
    have HW := Lib.hid hbw
    have HR := Lib.hid hrg
    have HO := Lib.hid hown
    have HCo := Lib.hid hcol
    have HSM := Lib.hid hsum
    clear HB0 HR0 hbw hrg hsum hown hcol
    go_wp2_with (at_next; refine wp_next_things rfl _ rfl m w.heap.size l.length l left cnt rfl HR.out ?_ ?_)
    · intro hlf
      have hperm := HCo.out.perm HR.out.owns law9 Tryz.underlying9 hlf
      rw [HKY.out] at hperm
      have hlen : ss.length ≤ 1000 := by rw [hperm.length_eq]; exact HKL.out
      have HP := Lib.hid hperm
      have HLN := Lib.hid hlen
      clear hperm hlf
      by_cases hne : ss = []
      · subst hne
        have hks : ks = [] := List.nil_perm.1 HP.out
        obtain ⟨A, cap, rfl, _, _, _⟩ := HO.out.form
        have HN := Lib.hid (fun W => sort_nokeys W A cap)
        have HRS : Hid (RES = []) := Lib.hid (by rw [HBN.out, hks]; rfl)
        clear hks HKO HFS HKL HP hlen HLN HO HCo
        go_wp2_with (go_at_call 92; (with_reducible refine (HN.out _).mono ?_); rintro e w1 ⟨rfl, rfl⟩)
        refine wp_loop_rounds 1 ?_
        rw [rounds_succ]
        go_wp2_with fail
        go_ret
        exact ⟨_, rfl, HRS.out ▸ Own.nil _ _ _, HW.out⟩
      · obtain ⟨g, cap, rfl, hbg, hg, hob, hrow⟩ := HO.out.rowK hne
        have HS := Lib.hid (sort_keys wr g cap ss (fun k hk => (HKO.out k (HP.out.mem_iff.1 hk)).1) hrow hg (by omega))
        have HGB := Lib.hid hbg
        have HG := Lib.hid hg
        obtain ⟨N, hN⟩ : ∃ N, N = ss.length := ⟨_, rfl⟩
        rw [← hN] at HS hlen ⊢
        have HNN := Lib.hid hN
        clear hrow hob hbg hg hne HO HCo hN
        go_wp2_with (go_at_call 92; (with_reducible refine HS.out.mono ?_); rintro e w2 ⟨rfl, d, hp2, hs2, hc2, hz2, hb2, _⟩)
        have hd : d = PS.sortK ks := sorted_is (fun k hk => (HKO.out k hk).2) (hp2.trans HP.out) hs2
        have hdn : d.length = N := by rw [hp2.length_eq]; exact HNN.out.symm
        have HD := Lib.hid hd
        have HDN := Lib.hid hdn
        have HC2 := Lib.hid hc2
        have HB2 := Lib.hid (HW.out.trans (hb2 w.heap.size (by have := HGB.out; omega)))
        have HG2 := Lib.hid (Nat.lt_of_lt_of_le HG.out hz2)
        have HMEM := Lib.hid (fun k (hk : k ∈ d) => (hp2.trans HP.out).mem_iff.1 hk)
        clear hp2 hs2 hc2 hz2 hb2 hd hdn HS
        go_loopw [5, 7, 25] (fun lV kV iV wr => ∃ (v : Value) (j : Nat), v = lV ∧ j ≤ N ∧ iV = .int .i64 j ∧ Own DT wr w2.heap.size v ((d.take j).filterMap (findM l)) ∧ Below w2.heap.size w2 wr) (fun _ _ iV _ => N - (intOf iV).toNat)
        case atStart => exact ⟨_, 0, rfl, Nat.zero_le _, rfl, Own.nil _ _ _, Below.refl _ _⟩
        case round =>
          obtain ⟨v, j, rfl, hj, rfl, hown, hbw⟩ := hrel
          have HBW := Lib.hid hbw
          have HO := Lib.hid hown
          have hb3 := HB2.out.trans (hbw.mono HB2.out.size)
          have HB3 := Lib.hid hb3
          clear hown hbw
          by_cases hlt : j < N
          · have hjd : j < d.length := by rw [HDN.out]; exact hlt
            obtain ⟨key, hkey⟩ : ∃ key, d[j]? = some key := ⟨_, List.getElem?_eq_getElem hjd⟩
            have hmem := HMEM.out key (List.mem_of_getElem? hkey)
            obtain ⟨x, hx⟩ := HFS.out key hmem
            have hck : wr.cell? ⟨g, j, none⟩ = some (.string (str key)) := cellB (HC2.out j key hkey) HBW.out HG2.out
            have hcb := HC.out _ HB3.out
            have hlk : (Instr.lookup 84 (.map (some m)) (.string (str key)) false).run Tryz.prog wr = .ok (.agg #[.string (str x.s), .int .i64 x.a, .int .i64 x.b, .int .i64 x.c, .int .i64 x.x, .int .i64 x.y, .int .i64 x.z, .int .i64 x.n]) wr := by
              have := HLK.out wr HB3.out key (HKO.out key hmem).1
              rw [hx] at this
              exact this
            have HST := Lib.hid (filterMap_step hkey hx)
            have HFL : Hid (((d.take j).filterMap (findM l)).length ≤ 1000) := Lib.hid (Nat.le_trans (List.length_filterMap_le _ _) (by rw [List.length_take]; omega))
            have HSZ := Lib.hid HBW.out.size
            generalize str key = KS at *
            clear hkey hmem hx hjd hb3
            go_wp2_with (at_builtin; (refine wp_appX DT rfl (.tmp 29) (.tmp 36) rfl w2.heap.size v _ rfl (HO.out.keep fun g hg => Below.heap_alloc wr _ g (HO.out.lt hg).2) (some ⟨wr.heap.size, 0, none⟩) 1 1 (wr.heap.size + 1) [x] rfl (fun h => by cases h) ?hk rfl (Nat.le_refl _) ?hln ?hbs ?_))
            case hk => exact (Rws.box (D := DT) (heap_alloc_new wr _)).mono (by simp)
            case hln => have := HFL.out; omega
            case hbs => simp; have := HSZ.out; omega
            intro v' w3 hown3 hgrow _
            have HO3 := Lib.hid hown3
            have HB4 := Lib.hid ((HBW.out.alloc HSZ.out (.cells #[.string (str x.s), .int .i64 x.a, .int .i64 x.b, .int .i64 x.c, .int .i64 x.x, .int .i64 x.y, .int .i64 x.z, .int .i64 x.n] 104)).grown hgrow (by simp; have := HSZ.out; omega) (fun k hk => (HO.out.lt hk).1))
            clear hown3 hgrow
            go_wp2_with fail
            go_roundw
            case rel => exact ⟨v', j + 1, rfl, by omega, by go_num, HST.out ▸ HO3.out, HB4.out⟩
            case measure => simp [intOf]; omega
          · go_wp2_with fail
            go_ret
            refine ⟨v, rfl, ?_, HB3.out⟩
            have hjN : j = N := by omega
            have e1 : RES = (d.take j).filterMap (findM l) := by rw [HBN.out, ← HD.out, hjN, ← HDN.out, List.take_length]
            rw [e1]
            exact HO.out.mono HB2.out.size
    · intro key x w1 cnt1 hp hlk hx hrg1 hlt hg1 hs1 hen
      have hcol1 : Collected (encM tenV l) (strike left key) (ss ++ [key]) := HCo.out.step hlk (at_any hp)
      have hbw1 : Below w.heap.size w w1 := HW.out.grown hg1 HW.out.size (fun k hk => by cases hk; exact Nat.le_refl _)
      have hne : v.ownBlock ≠ some w.heap.size := fun e => by have := (HO.out.lt e).1; omega
      have hown1 : Own DK w1 (w.heap.size + 1) v ss := HO.out.keep fun g hg => hg1.block g (HO.out.lt hg).2 (fun e => hne (hg.trans (by rw [e])))
      have hmne : some m ≠ v.ownBlock := fun e => by have := (HO.out.lt e.symm).1; have := HM.out.lt; omega
      have hrne : some w.heap.size ≠ v.ownBlock := fun e => hne e.symm
      have hln : ss.length ≤ 1000 := by have := HSM.out; have := HL.out; omega
      have hz1 : w.heap.size + 1 ≤ w1.heap.size := by omega
      have HR1 := Lib.hid hrg1
      have HB1 := Lib.hid hbw1
      have HO1 := Lib.hid hown1
      have HC1 := Lib.hid hcol1
      have HE := Lib.hid hlt
      have HLN := Lib.hid hln
      have HNE := Lib.hid (And.intro hmne hrne)
      clear hrg1 hbw1 hg1 hs1 hlt hlk hcol1 hown1 hne hmne hrne hln hp
      go_wp2_with (at_builtin; (refine wp_appX DK rfl (.tmp 17) (.tmp 19) rfl (w.heap.size + 1) v ss rfl (HO1.out.keep fun g hg => Below.heap_alloc w1 _ g (HO1.out.lt hg).2) (some ⟨w1.heap.size, 0, none⟩) 1 1 (w1.heap.size + 1) [key] rfl (fun h => by cases h) ?hk rfl (Nat.le_refl _) ?hln ?hbs ?_))
      case hk => exact (Rws.box (heap_alloc_new w1 _)).mono (by simp)
      case hln => have := HLN.out; omega
      case hbs => simp; omega
      intro v' w2 hown2 hgrow _
      have hrg2 := (World.ranges.alloc HR1.out _).kept hgrow HNE.out.1 HNE.out.2
      have hbw2 : Below w.heap.size w w2 := (HB1.out.alloc HB1.out.size _).grown hgrow (by have := HB1.out.size; simp; omega) (fun k hk => by have := (HO1.out.lt hk).1; omega)
      have hz2 : w.heap.size + 1 ≤ w2.heap.size := by have := hgrow.size; simp at this; omega
      have HR2 := Lib.hid hrg2
      have HB2 := Lib.hid hbw2
      have HO2 := Lib.hid hown2
      clear hrg2 hbw2 hown2 hgrow
      go_wp2_with fail
      go_roundw
      case rel => exact ⟨v', _, _, _, rfl, HO2.out, HR2.out, HC1.out, by rw [List.length_append]; have := HSM.out; have := HE.out; simp; omega, HB2.out, hz2⟩
      case measure =>
        rw [HR2.out.left_eq, HR.out.left_eq]
        exact HE.out
def ByJ (l : List (Tx × Jb)) (w : World) (e : Ending) (w' : World) : Prop := ∃ v, e = .returned v ∧ Own DJ w' w.heap.size v (PS.byName l) ∧ Below w.heap.size w w'
set_option maxHeartbeats 1000000 in
theorem byJ_nil {b o : Nat} (w : World) (hc : w.cell? ⟨b, o, none⟩ = some (.map none)) : Calls Tryz.prog 44 #[.pointer (some ⟨b, o, none⟩)] w (ByJ [] w) := by
  have hr := run_range_nilMap (P := Tryz.prog) w 87 9 46 Tryz.underlying87
  have hnx : ∀ ty, (Instr.next (.pointer (some ⟨w.heap.size, 0, none⟩)) false ty).run Tryz.prog (w.alloc (.mapIter none 0 #[] 0)) = _ := fun ty => run_next_nilMap w ty 0 0 #[]
  have HS := Lib.hid (fun W => sort_nokeys W none 0)
  go_enter Tryz.func44, Tryz.ntmps44
  go_wp2_with fail
  refine wp_loop_rounds 1 ?_
  rw [rounds_succ]
  go_wp2_with (go_at_call 92; (with_reducible refine (HS.out _).mono ?_); rintro e w1 ⟨rfl, rfl⟩)
  refine wp_loop_rounds 1 ?_
  rw [rounds_succ]
  go_wp2_with fail
  go_ret
  exact ⟨_, rfl, Own.nil _ _ _, (Below.refl _ _).alloc (Nat.le_refl _) _⟩
set_option maxHeartbeats 4000000 in
theorem byJ_some {b o m : Nat} {l : List (Tx × Jb)} (w : World) (hc : w.cell? ⟨b, o, none⟩ = some (.map (some m))) (hm : MapAt jobV w m l) (hl : l.length ≤ 1000) (hk : ∀ e ∈ l, e.1.length ≤ 1000000 ∧ Nm.Pl.okay e.1 = true) :
    Calls Tryz.prog 44 #[.pointer (some ⟨b, o, none⟩)] w (ByJ l w) := by
  have HC := Lib.hid (fun X (hX : Below w.heap.size w X) => cellB hc hX (lt_of_cell hc))
  have HM := Lib.hid hm
  have HLK := Lib.hid (fun X (hX : Below w.heap.size w X) (k : Tx) (hn : k.length ≤ 1000000) => (hm.keep (hX.block m hm.lt)).look1 (t := 87) (e := 46) Tryz.underlying87 (zero_J X) (k := k) (by simp only [maxLen]; omega))
  have HZ := Lib.hid (size_enc jobV l)
  have HL := Lib.hid hl
  have HKY := Lib.hid (enc_keys jobV l)
  have hko : ∀ k ∈ l.map (·.1), k.length ≤ 1000000 ∧ Nm.Pl.okay k = true := fun k hk' => by
    obtain ⟨e, he, rfl⟩ := List.mem_map.1 hk'
    exact hk e he
  have HKO := Lib.hid hko
  have HFS := Lib.hid (fun k (h : k ∈ l.map (·.1)) => find_some h)
  have HBN := Lib.hid (show PS.byName l = (PS.sortK (l.map (·.1))).filterMap (findM l) from rfl)
  have HKL : Hid ((l.map (·.1)).length ≤ 1000) := Lib.hid (by rw [List.length_map]; exact hl)
  unfold ByJ
  generalize PS.byName l = RES at *
  generalize l.map (·.1) = ks at *
  clear hm hl hk hko
  go_enter Tryz.func44, Tryz.ntmps44
  go_wp2_with (first | (at_range; refine wpList_range_own _ rfl _ 87 rfl 9 46 law9 Tryz.underlying87 R0 m l.length (encM jobV l) rfl HM.out ?_; intro w0 hrg0 hg0 hs0) | go_in)
  go_frame
  have hbw0 : Below w.heap.size w w0 := (Below.refl _ w).grown hg0 (Nat.le_refl _) (fun k hk => by cases hk)
  have HB0 := Lib.hid hbw0
  have HR0 := Lib.hid hrg0
  clear hg0 hs0 hbw0 hrg0
  go_loopw [3] (fun lV wr => ∃ (v : Value) (ss : List Tx) (left : Lit → Bool) (cnt : Nat), v = lV ∧ Own DK wr (w.heap.size + 1) v ss ∧ Rng jobV wr m w.heap.size l.length l left cnt ∧ Collected (encM jobV l) left ss ∧ ss.length + cnt ≤ l.length ∧ Below w.heap.size w wr ∧ w.heap.size + 1 ≤ wr.heap.size) (fun _ wr => wr.rangeLeft m w.heap.size)
  case atStart => exact ⟨_, [], _, _, rfl, Own.nil _ _ _, HR0.out, Collected.start _, by rw [HZ.out]; simp, HB0.out, HR0.out.lt⟩
  case round =>
    obtain ⟨v, ss, left, cnt, rfl, hown, hrg, hcol, hsum, hbw, hz⟩ := hrel
    have HW := Lib.hid hbw
    have HR := Lib.hid hrg
    have HO := Lib.hid hown
    have HCo := Lib.hid hcol
    have HSM := Lib.hid hsum
    clear HB0 HR0 hbw hrg hsum hown hcol
    go_wp2_with (at_next; refine wp_next_things rfl _ rfl m w.heap.size l.length l left cnt rfl HR.out ?_ ?_)
    · intro hlf
      have hperm := HCo.out.perm HR.out.owns law9 Tryz.underlying9 hlf
      rw [HKY.out] at hperm
      have hlen : ss.length ≤ 1000 := by rw [hperm.length_eq]; exact HKL.out
      have HP := Lib.hid hperm
      have HLN := Lib.hid hlen
      clear hperm hlf
      by_cases hne : ss = []
      · subst hne
        have hks : ks = [] := List.nil_perm.1 HP.out
        obtain ⟨A, cap, rfl, _, _, _⟩ := HO.out.form
        have HN := Lib.hid (fun W => sort_nokeys W A cap)
        have HRS : Hid (RES = []) := Lib.hid (by rw [HBN.out, hks]; rfl)
        clear hks HKO HFS HKL HP hlen HLN HO HCo
        go_wp2_with (go_at_call 92; (with_reducible refine (HN.out _).mono ?_); rintro e w1 ⟨rfl, rfl⟩)
        refine wp_loop_rounds 1 ?_
        rw [rounds_succ]
        go_wp2_with fail
        go_ret
        exact ⟨_, rfl, HRS.out ▸ Own.nil _ _ _, HW.out⟩
      · obtain ⟨g, cap, rfl, hbg, hg, hob, hrow⟩ := HO.out.rowK hne
        have HS := Lib.hid (sort_keys wr g cap ss (fun k hk => (HKO.out k (HP.out.mem_iff.1 hk)).1) hrow hg (by omega))
        have HGB := Lib.hid hbg
        have HG := Lib.hid hg
        obtain ⟨N, hN⟩ : ∃ N, N = ss.length := ⟨_, rfl⟩
        rw [← hN] at HS hlen ⊢
        have HNN := Lib.hid hN
        clear hrow hob hbg hg hne HO HCo hN
        go_wp2_with (go_at_call 92; (with_reducible refine HS.out.mono ?_); rintro e w2 ⟨rfl, d, hp2, hs2, hc2, hz2, hb2, _⟩)
        have hd : d = PS.sortK ks := sorted_is (fun k hk => (HKO.out k hk).2) (hp2.trans HP.out) hs2
        have hdn : d.length = N := by rw [hp2.length_eq]; exact HNN.out.symm
        have HD := Lib.hid hd
        have HDN := Lib.hid hdn
        have HC2 := Lib.hid hc2
        have HB2 := Lib.hid (HW.out.trans (hb2 w.heap.size (by have := HGB.out; omega)))
        have HG2 := Lib.hid (Nat.lt_of_lt_of_le HG.out hz2)
        have HMEM := Lib.hid (fun k (hk : k ∈ d) => (hp2.trans HP.out).mem_iff.1 hk)
        clear hp2 hs2 hc2 hz2 hb2 hd hdn HS
        go_loopw [5, 7, 25] (fun lV kV iV wr => ∃ (v : Value) (j : Nat), v = lV ∧ j ≤ N ∧ iV = .int .i64 j ∧ Own DJ wr w2.heap.size v ((d.take j).filterMap (findM l)) ∧ Below w2.heap.size w2 wr) (fun _ _ iV _ => N - (intOf iV).toNat)
        case atStart => exact ⟨_, 0, rfl, Nat.zero_le _, rfl, Own.nil _ _ _, Below.refl _ _⟩
        case round =>
          obtain ⟨v, j, rfl, hj, rfl, hown, hbw⟩ := hrel
          have HBW := Lib.hid hbw
          have HO := Lib.hid hown
          have hb3 := HB2.out.trans (hbw.mono HB2.out.size)
          have HB3 := Lib.hid hb3
          clear hown hbw
          by_cases hlt : j < N
          · have hjd : j < d.length := by rw [HDN.out]; exact hlt
            obtain ⟨key, hkey⟩ : ∃ key, d[j]? = some key := ⟨_, List.getElem?_eq_getElem hjd⟩
            have hmem := HMEM.out key (List.mem_of_getElem? hkey)
            obtain ⟨x, hx⟩ := HFS.out key hmem
            have hck : wr.cell? ⟨g, j, none⟩ = some (.string (str key)) := cellB (HC2.out j key hkey) HBW.out HG2.out
            have hcb := HC.out _ HB3.out
            have hlk : (Instr.lookup 87 (.map (some m)) (.string (str key)) false).run Tryz.prog wr = .ok (.agg #[.string (str x.s), .string (str x.t), .int .i64 x.p, .int .i64 x.q, .int .i64 x.r, .string (str x.on), .int .i64 x.st]) wr := by
              have := HLK.out wr HB3.out key (HKO.out key hmem).1
              rw [hx] at this
              exact this
            have HST := Lib.hid (filterMap_step hkey hx)
            have HFL : Hid (((d.take j).filterMap (findM l)).length ≤ 1000) := Lib.hid (Nat.le_trans (List.length_filterMap_le _ _) (by rw [List.length_take]; omega))
            have HSZ := Lib.hid HBW.out.size
            generalize str key = KS at *
            clear hkey hmem hx hjd hb3
            go_wp2_with (at_builtin; (refine wp_appX DJ rfl (.tmp 29) (.tmp 36) rfl w2.heap.size v _ rfl (HO.out.keep fun g hg => Below.heap_alloc wr _ g (HO.out.lt hg).2) (some ⟨wr.heap.size, 0, none⟩) 1 1 (wr.heap.size + 1) [x] rfl (fun h => by cases h) ?hk rfl (Nat.le_refl _) ?hln ?hbs ?_))
            case hk => exact (Rws.box (D := DJ) (heap_alloc_new wr _)).mono (by simp)
            case hln => have := HFL.out; omega
            case hbs => simp; have := HSZ.out; omega
            intro v' w3 hown3 hgrow _
            have HO3 := Lib.hid hown3
            have HB4 := Lib.hid ((HBW.out.alloc HSZ.out (.cells #[.string (str x.s), .string (str x.t), .int .i64 x.p, .int .i64 x.q, .int .i64 x.r, .string (str x.on), .int .i64 x.st] 46)).grown hgrow (by simp; have := HSZ.out; omega) (fun k hk => (HO.out.lt hk).1))
            clear hown3 hgrow
            go_wp2_with fail
            go_roundw
            case rel => exact ⟨v', j + 1, rfl, by omega, by go_num, HST.out ▸ HO3.out, HB4.out⟩
            case measure => simp [intOf]; omega
          · go_wp2_with fail
            go_ret
            refine ⟨v, rfl, ?_, HB3.out⟩
            have hjN : j = N := by omega
            have e1 : RES = (d.take j).filterMap (findM l) := by rw [HBN.out, ← HD.out, hjN, ← HDN.out, List.take_length]
            rw [e1]
            exact HO.out.mono HB2.out.size
    · intro key x w1 cnt1 hp hlk hx hrg1 hlt hg1 hs1 hen
      have hcol1 : Collected (encM jobV l) (strike left key) (ss ++ [key]) := HCo.out.step hlk (at_any hp)
      have hbw1 : Below w.heap.size w w1 := HW.out.grown hg1 HW.out.size (fun k hk => by cases hk; exact Nat.le_refl _)
      have hne : v.ownBlock ≠ some w.heap.size := fun e => by have := (HO.out.lt e).1; omega
      have hown1 : Own DK w1 (w.heap.size + 1) v ss := HO.out.keep fun g hg => hg1.block g (HO.out.lt hg).2 (fun e => hne (hg.trans (by rw [e])))
      have hmne : some m ≠ v.ownBlock := fun e => by have := (HO.out.lt e.symm).1; have := HM.out.lt; omega
      have hrne : some w.heap.size ≠ v.ownBlock := fun e => hne e.symm
      have hln : ss.length ≤ 1000 := by have := HSM.out; have := HL.out; omega
      have hz1 : w.heap.size + 1 ≤ w1.heap.size := by omega
      have HR1 := Lib.hid hrg1
      have HB1 := Lib.hid hbw1
      have HO1 := Lib.hid hown1
      have HC1 := Lib.hid hcol1
      have HE := Lib.hid hlt
      have HLN := Lib.hid hln
      have HNE := Lib.hid (And.intro hmne hrne)
      clear hrg1 hbw1 hg1 hs1 hlt hlk hcol1 hown1 hne hmne hrne hln hp
      go_wp2_with (at_builtin; (refine wp_appX DK rfl (.tmp 17) (.tmp 19) rfl (w.heap.size + 1) v ss rfl (HO1.out.keep fun g hg => Below.heap_alloc w1 _ g (HO1.out.lt hg).2) (some ⟨w1.heap.size, 0, none⟩) 1 1 (w1.heap.size + 1) [key] rfl (fun h => by cases h) ?hk rfl (Nat.le_refl _) ?hln ?hbs ?_))
      case hk => exact (Rws.box (heap_alloc_new w1 _)).mono (by simp)
      case hln => have := HLN.out; omega
      case hbs => simp; omega
      intro v' w2 hown2 hgrow _
      have hrg2 := (World.ranges.alloc HR1.out _).kept hgrow HNE.out.1 HNE.out.2
      have hbw2 : Below w.heap.size w w2 := (HB1.out.alloc HB1.out.size _).grown hgrow (by have := HB1.out.size; simp; omega) (fun k hk => by have := (HO1.out.lt hk).1; omega)
      have hz2 : w.heap.size + 1 ≤ w2.heap.size := by have := hgrow.size; simp at this; omega
      have HR2 := Lib.hid hrg2
      have HB2 := Lib.hid hbw2
      have HO2 := Lib.hid hown2
      clear hrg2 hbw2 hown2 hgrow
      go_wp2_with fail
      go_roundw
      case rel => exact ⟨v', _, _, _, rfl, HO2.out, HR2.out, HC1.out, by rw [List.length_append]; have := HSM.out; have := HE.out; simp; omega, HB2.out, hz2⟩
      case measure =>
        rw [HR2.out.left_eq, HR.out.left_eq]
        exact HE.out
end Go.Proofs.YtphclpjekpdifaaGreat
