import Derived.Test.YtjpnkecfoealoaaQk
import Derived.Test.YtjpnkecfoealoaaQj
import Derived.Test.YtjpnkecfoealoaaLFits
namespace Go.Proofs.Ytjpnkecfoealoaa
set_option maxRecDepth 20000
open Go.RowKit
open Go.Proofs.Ytjpnkecfoealoaa.Vc (I64 fitB RetBelow DigsAt)
set_option linter.unusedVariables false
attribute [local irreducible] wpQuiet

/-- the rows of the law: the demand's box, and the map -/
structure LS (w X : World) (p q r : Int) (bm k : Nat) (S : List Nat) : Prop where
  b : Below w.heap.size w X
  v : Vc.BK X w.heap.size p q r
  m : MapS X bm k S
theorem LS.on {w X Y : World} {p q r : Int} {bm k : Nat} {S : List Nat} (h : LS w X p q r bm k S) (hb : Below X.heap.size X Y) : LS w Y p q r bm k S :=
  ⟨h.b.trans (hb.mono h.b.size), h.v.on hb h.v.lt, h.m.keep (hb.block _ h.m.lt)⟩
theorem nodup_cand (L : List Nd) (p q r : Int) (k : Nat) : (cand L p q r k).Nodup := List.Pairwise.filter _ List.nodup_range
theorem MapS.not_cell {w : World} {b n : Nat} {S : List Nat} (h : MapS w b n S) {o : Nat} {v : Value} (hc : w.cell? ⟨b, o, none⟩ = some v) : False := by
  obtain ⟨D, ⟨es, clock, h1, _⟩, _⟩ := h
  simp [World.cell?, h1] at hc
theorem digs_put {w w' : World} {A : Option Addr} {R : List Nat} {b n : Nat} {S : List Nat} (h : DigsAt w w.heap.size A R) (hm : MapS w b n S) (hg : w.grownBy w' (some b)) : DigsAt w' w'.heap.size A R := fun hne => by
  obtain ⟨ba, oa, h1, h2, h3⟩ := h hne
  refine ⟨ba, oa, h1, Nat.lt_of_lt_of_le h2 hg.size, fun j u hu => ?_⟩
  have hne2 : ba ≠ b := fun e => by
    subst e
    exact hm.not_cell (h3 j u hu)
  exact (cell_of_heap (hg.block ba h2 (fun e => hne2 (by injection e)))).trans (h3 j u hu)
theorem LS.put {w X Y : World} {p q r : Int} {bm k : Nat} {S S' : List Nat} (h : LS w X p q r bm k S) (hb : w.heap.size < bm) (hm : MapS Y bm (k + 1) S') (hg : X.grownBy Y (some bm)) : LS w Y p q r bm (k + 1) S' :=
  ⟨h.b.grown hg h.b.size (fun j e => by injection e with e; omega), (hg.block _ h.v.lt (fun e => by injection e with e; omega)).trans h.v, hm⟩
theorem MapS.perm {w : World} {b n : Nat} {S S' : List Nat} (h : MapS w b n S) (hs : ∀ x, x ∈ S ↔ x ∈ S') : MapS w b n S' := by
  obtain ⟨D, h1, h2⟩ := h
  exact ⟨D, h1, fun x hx => by rw [h2 x hx]; congr 2; simp [hs x]⟩
/-- the score of the one ahead -/
def lastOf (L : List Nd) (p q r : Int) (R : List Nat) : Nat → Int
  | 0 => 0
  | k + 1 => scL L p q r (R[k]?.getD 0)
theorem last_le {L : List Nd} {p q r : Int} {R : List Nat} (h : RankOf L p q r R) {k x : Nat} {n : Nd} (hx : R[k]? = some x) (hn : L[x]? = some n) (ht : ntakes n p q r = true) : lastOf L p q r R k ≤ nscore n p q r := by
  cases k with
  | zero =>
    show 0 ≤ _
    unfold nscore
    rw [if_pos ht]
    exact shV_pos _ _ _ _ _ _
  | succ k =>
    have hl := (List.getElem?_eq_some_iff.1 hx)
    obtain ⟨hl, he⟩ := hl
    have hp := List.pairwise_iff_getElem.1 h.2 k (k + 1) (by omega) hl (by omega)
    rw [he] at hp
    show scL L p q r (R[k]?.getD 0) ≤ _
    rw [List.getElem?_eq_getElem (by omega), Option.getD_some]
    rw [← sc_takes hn]
    unfold bef at hp
    by_cases e : scL L p q r x = scL L p q r R[k]
    · omega
    · rw [if_neg e, decide_eq_false_iff_not] at hp
      omega
set_option maxHeartbeats 4000000 in
theorem law_all (L : List Nd) (A : Option Addr) (N c : Nat) (p q r : Int) (w : World) (hA : NodesAt w w.heap.size A L) (hN : L.length = N) (hNc : N ≤ c) (hc : c ≤ 9223372036854775807) (hok : ∀ n ∈ L, Nok n) (hno : A = none → c = 0) (bp : I64 p) (bq : I64 q) (br : I64 r) :
    Calls Try.prog 8 #[.slice A N c, .agg #[.int .i64 p, .int .i64 q, .int .i64 r]] w (RetBelow (.bool true) w) := by
  have k0 := Lib.hid awake_any
  have X0 := Lib.hid (LA.new w A L p q r)
  by_cases h40 : N ≤ 40
  · have KR := Lib.hid fun (X : World) (h : Below w.heap.size w X) => rank_any L A N c p q r X ((hA.on h).mono h.size) hN (by omega) hok bp bq br
    have KT := Lib.hid fun (n : Nd) (hn : n ∈ L) (W : World) => takes_any n p q r W (hok n hn) bp bq br
    have KS := Lib.hid fun (n : Nd) (hn : n ∈ L) (W : World) => score_any n p q r W (hok n hn) bp bq br
    have HA := Lib.hid hA
    have HN := Lib.hid hN
    have h41 : decide (40 < N) = false := by simpa using h40
    have h42 : decide ((40 : Int) < N) = false := by simp; omega
    have H40 := Lib.hid h40
    have hmm := @run_makeMap Try.prog
    clear hA hN hNc hc hok hno bp bq br h40
    go_enter Try.func8, Try.ntmps8
    go_wp2_with (go_at_call 9; (with_reducible refine (k0.out _).mono ?_); rintro e w1 ⟨rfl, hb⟩; have X1 := Lib.hid (X0.out.on hb); clear hb; have X2 := X1.out.on ((Below.refl _ w1).alloc (Nat.le_refl _) (.map #[] 0)); obtain ⟨v0, v1, v2⟩ := X2.v.c3; have X2 := Lib.hid X2)
    refine (KR.out _ X2.out.b).mono ?_
    rintro e w5 ⟨A6, cap6, R, rfl, hR, hD, hb⟩
    have hm0 := (MapS.made w1).keep (hb.block w1.heap.size (by simp))
    have X5 := X2.out.on hb
    have S5 : LS w w5 p q r w1.heap.size 0 [] := ⟨X5.b, X5.v, hm0⟩
    have S5 := Lib.hid S5
    have HR := Lib.hid hR
    have D5 := Lib.hid hD
    generalize hRl : R.length = M at *
    have HRL := Lib.hid hRl
    have hML : M ≤ 40 := by
      have := hR.1.length_eq
      have h2 := cand_len L p q r L.length
      have := HN.out
      have := H40.out
      omega
    have HML := Lib.hid hML
    clear hb hR hD hm0 X5 hRl hML
    have hbm : w.heap.size < w1.heap.size := X1.out.v.lt
    have HBM := Lib.hid hbm
    clear hbm
    go_wp2_with fail
    go_loopw [6, 22] (fun t6 t22 wr => ∃ k : Nat, k ≤ M ∧ t6 = .int .i64 (lastOf L p q r R k) ∧ t22 = .int .i64 k ∧ LS w wr p q r w1.heap.size k (R.take k) ∧ DigsAt wr wr.heap.size A6 R) (fun _ t22 _ => M - (intOf t22).toNat)
    case atStart => exact ⟨0, Nat.zero_le _, rfl, rfl, by rw [List.take_zero]; exact S5.out, D5.out⟩
    case round =>
    obtain ⟨k, hk, rfl, rfl, hX, hDG⟩ := hrel
    have HX := Lib.hid hX
    have HDG := Lib.hid hDG
    clear hX hDG
    by_cases hp : k < M
    · have hkR : k < R.length := by rw [HRL.out]; exact hp
      obtain ⟨ba, oa, rfl, hla, hca⟩ := HDG.out (fun e => by rw [e] at hkR; cases hkR)
      have hx := List.getElem?_eq_getElem hkR
      have hc := hca k R[k] hx
      have hmc := HR.out.1.mem_iff.1 (List.getElem_mem hkR)
      obtain ⟨m, hm, ht⟩ := cand_mem.1 hmc
      have hnd : R[k] ∉ R.take k := by
        have nd : R.Nodup := (HR.out.1.nodup_iff).2 (nodup_cand L p q r L.length)
        intro hin
        obtain ⟨j, hj, he⟩ := List.getElem_of_mem hin
        rw [List.length_take] at hj
        rw [List.getElem_take] at he
        exact (List.pairwise_iff_getElem.1 nd j k (by omega) hkR (by omega)) he
      have hlast := last_le HR.out hx hm ht
      have hxl := (List.getElem?_eq_some_iff.1 hm).1
      rw [HN.out] at hxl
      have hsuc : lastOf L p q r R (k + 1) = nscore m p q r := by
        show scL L p q r (R[k]?.getD 0) = _
        rw [hx, Option.getD_some, sc_takes hm]
      have htk : R.take (k + 1) = R.take k ++ [R[k]] := by rw [List.take_add_one, hx]; rfl
      have hA0 := HA.out (fun e => by rw [e] at hm; simp at hm)
      obtain ⟨b0, off0, rfl, hb0, _⟩ := hA0
      have HM := Lib.hid hm
      have HTK := Lib.hid htk
      have HSU := Lib.hid hsuc
      have HND := Lib.hid hnd
      have kt := KT.out m (List.mem_of_getElem? hm)
      have ks := KS.out m (List.mem_of_getElem? hm)
      rw [ht] at kt
      unfold nodeV nodeC at kt ks
      have kt := Lib.hid kt
      have ks := Lib.hid ks
      have HCX := Lib.hid (show DigsAt wr wr.heap.size (some ⟨ba, oa, none⟩) R from HDG.out)
      clear hca hmc hm ht hnd hsuc htk hx
      generalize R[k] = x at *
      clear hkR
      generalize lastOf L p q r R k = S0 at *
      generalize nscore m p q r = S1 at *
      have hp1 : (k : Int) < M := by omega
      have g1 : decide ((x : Int) < 0) = false := by simp
      have g2 : decide ((N : Int) ≤ (x : Int)) = false := by simp; omega
      have g2b : decide (N ≤ x) = false := by simp; omega
      have g3 : (x : Int) < N := by omega
      have g4 : decide (S1 < S0) = false := by simp; omega
      have hML := HML.out
      have h40 := H40.out
      clear hlast
      go_wp2_with fail
      have E0 : Hid (LS w wr.drew p q r w1.heap.size k (R.take k) ∧ DigsAt wr.drew wr.drew.heap.size (some ⟨ba, oa, none⟩) R) := Lib.hid ⟨HX.out.on (Below.refl _ wr).drew, HCX.out.on (Below.refl _ wr).drew⟩
      have zl : ∀ Z : Wd (fun X => LS w X p q r w1.heap.size k (R.take k) ∧ DigsAt X X.heap.size (some ⟨ba, oa, none⟩) R), (Instr.lookup 44 (.map (some w1.heap.size)) (.int .i64 (x : Int)) false).run Try.prog Z.X = .ok (.bool false) Z.X := fun Z => by
        have := Z.ok.1.m.look (x := x) (by omega)
        rwa [show decide (x ∈ R.take k) = false from decide_eq_false HND.out] at this
      have y0 : ∀ Z : Wd (fun X => LS w X p q r w1.heap.size k (R.take k) ∧ DigsAt X X.heap.size (some ⟨ba, oa, none⟩) R), Z.X.cell? ⟨b0, off0 + x * 8, none⟩ = some (.string (Nm.str m.s)) := fun Z => (HA.out.at Z.ok.1.b HM.out).c0
      have y1 : ∀ Z : Wd (fun X => LS w X p q r w1.heap.size k (R.take k) ∧ DigsAt X X.heap.size (some ⟨ba, oa, none⟩) R), Z.X.cell? ⟨b0, off0 + x * 8 + 1, none⟩ = some (.int .i64 m.a) := fun Z => (HA.out.at Z.ok.1.b HM.out).c1
      have y2 : ∀ Z : Wd (fun X => LS w X p q r w1.heap.size k (R.take k) ∧ DigsAt X X.heap.size (some ⟨ba, oa, none⟩) R), Z.X.cell? ⟨b0, off0 + x * 8 + 2, none⟩ = some (.int .i64 m.b) := fun Z => (HA.out.at Z.ok.1.b HM.out).c2
      have y3 : ∀ Z : Wd (fun X => LS w X p q r w1.heap.size k (R.take k) ∧ DigsAt X X.heap.size (some ⟨ba, oa, none⟩) R), Z.X.cell? ⟨b0, off0 + x * 8 + 3, none⟩ = some (.int .i64 m.c) := fun Z => (HA.out.at Z.ok.1.b HM.out).c3
      have y4 : ∀ Z : Wd (fun X => LS w X p q r w1.heap.size k (R.take k) ∧ DigsAt X X.heap.size (some ⟨ba, oa, none⟩) R), Z.X.cell? ⟨b0, off0 + x * 8 + 4, none⟩ = some (.int .i64 m.x) := fun Z => (HA.out.at Z.ok.1.b HM.out).c4
      have y5 : ∀ Z : Wd (fun X => LS w X p q r w1.heap.size k (R.take k) ∧ DigsAt X X.heap.size (some ⟨ba, oa, none⟩) R), Z.X.cell? ⟨b0, off0 + x * 8 + 5, none⟩ = some (.int .i64 m.y) := fun Z => (HA.out.at Z.ok.1.b HM.out).c5
      have y6 : ∀ Z : Wd (fun X => LS w X p q r w1.heap.size k (R.take k) ∧ DigsAt X X.heap.size (some ⟨ba, oa, none⟩) R), Z.X.cell? ⟨b0, off0 + x * 8 + 6, none⟩ = some (.int .i64 m.z) := fun Z => (HA.out.at Z.ok.1.b HM.out).c6
      have y7 : ∀ Z : Wd (fun X => LS w X p q r w1.heap.size k (R.take k) ∧ DigsAt X X.heap.size (some ⟨ba, oa, none⟩) R), Z.X.cell? ⟨b0, off0 + x * 8 + 7, none⟩ = some (.bool m.d) := fun Z => (HA.out.at Z.ok.1.b HM.out).c7
      have v0 : ∀ Z : Wd (fun X => LS w X p q r w1.heap.size k (R.take k) ∧ DigsAt X X.heap.size (some ⟨ba, oa, none⟩) R), Z.X.cell? ⟨w.heap.size, 0, none⟩ = some (.int .i64 p) := fun Z => Z.ok.1.v.c3.1
      have v1 : ∀ Z : Wd (fun X => LS w X p q r w1.heap.size k (R.take k) ∧ DigsAt X X.heap.size (some ⟨ba, oa, none⟩) R), Z.X.cell? ⟨w.heap.size, 1, none⟩ = some (.int .i64 q) := fun Z => Z.ok.1.v.c3.2.1
      have v2 : ∀ Z : Wd (fun X => LS w X p q r w1.heap.size k (R.take k) ∧ DigsAt X X.heap.size (some ⟨ba, oa, none⟩) R), Z.X.cell? ⟨w.heap.size, 2, none⟩ = some (.int .i64 r) := fun Z => Z.ok.1.v.c3.2.2
      have CT := Lib.hid fun Z : Wd (fun X => LS w X p q r w1.heap.size k (R.take k) ∧ DigsAt X X.heap.size (some ⟨ba, oa, none⟩) R) => Calls.in_class Z (kt.out Z.X) (fun X h1 h2 => ⟨LS.on h1.1 h2, h1.2.on h2⟩)
      have CS := Lib.hid fun Z : Wd (fun X => LS w X p q r w1.heap.size k (R.take k) ∧ DigsAt X X.heap.size (some ⟨ba, oa, none⟩) R) => Calls.in_class Z (ks.out Z.X) (fun X h1 h2 => ⟨LS.on h1.1 h2, h1.2.on h2⟩)
      refine wp_region_class (fun X => LS w X p q r w1.heap.size k (R.take k) ∧ DigsAt X X.heap.size (some ⟨ba, oa, none⟩) R) (by kernel_rfl) (by kernel_rfl) E0.out (fun hne => ?_)
      haveI := hne
      iterate 32 (quiet_step ((first | (go_at_call 19; with_reducible exact CT.out _) | (go_at_call 17; with_reducible exact CS.out _))))
      refine wpQuiet_nil ?_
      intro z1 hz1
      obtain ⟨⟨zz, E1⟩, rfl⟩ := hz1
      have E1 := Lib.hid E1
      obtain ⟨wp, hput, hmp, hgp⟩ := E1.out.1.m.put (x := x) (by omega) (by omega)
      have XP := LS.put E1.out.1 HBM.out (hmp.perm (S' := R.take (k + 1)) (fun y => by rw [HTK.out]; simp [or_comm])) hgp
      have DZ : DigsAt wp wp.heap.size (some ⟨ba, oa, none⟩) R := digs_put E1.out.2 E1.out.1.m hgp
      have XP := Lib.hid XP
      have DZ := Lib.hid DZ
      obtain ⟨c0, c1, c2, c3, c4, c5, c6, c7⟩ := HA.out.at XP.out.b HM.out
      obtain ⟨v0, v1, v2⟩ := XP.out.v.c3
      clear hmp hgp
      go_wp2_with fail
      go_still_tail 5, (by kernel_rfl)
      change wpList _ _ _ _ _ wp.drew
      have XD := Lib.hid (XP.out.on (Below.refl _ wp).drew)
      go_wp2_with (go_at_call 17; (with_reducible refine (ks.out _).mono ?_); rintro e w9 ⟨rfl, hb⟩; have X9 := Lib.hid (XD.out.on hb); have D9 := Lib.hid ((DZ.out.on (Below.refl _ wp).drew).on hb); clear hb)
      go_roundw
      case rel => exact ⟨k + 1, by omega, by rw [HSU.out], by go_num, X9.out, D9.out⟩
      case measure => simp [intOf] <;> omega
    · obtain rfl : k = M := by omega
      have hd8 : decide ((k : Int) < k) = false := by simp
      have hd9 : decide (k < k) = false := by simp
      have hRM : R.take k = R := List.take_of_length_le (by rw [HRL.out]; omega)
      have hX2 := HX.out
      rw [hRM] at hX2
      have HX2 := Lib.hid hX2
      clear hX2 hRM
      go_wp2_with fail
      go_loopw [69] (fun t69 wi => ∃ j : Nat, j ≤ N ∧ t69 = .int .i64 j ∧ LS w wi p q r w1.heap.size k R) (fun t69 _ => N - (intOf t69).toNat)
      case atStart => exact ⟨0, Nat.zero_le _, rfl, HX2.out⟩
      case round =>
      obtain ⟨j, hj, rfl, hZ⟩ := hrel
      have HZ := Lib.hid hZ
      clear hZ
      by_cases hjn : j < N
      · have hjl : j < L.length := by rw [HN.out]; exact hjn
        obtain ⟨b0, off0, rfl, hb0, _⟩ := HA.out (fun e => by rw [e] at hjl; cases hjl)
        have hm := List.getElem?_eq_getElem hjl
        generalize hmd : L[j] = m at *
        have hmem : m ∈ L := by rw [← hmd]; exact List.getElem_mem hjl
        have HM := Lib.hid hm
        have kt := KT.out m hmem
        unfold nodeV nodeC at kt
        have kt := Lib.hid kt
        have hsee : decide (j ∈ R) = ntakes m p q r := by
          rw [Bool.eq_iff_iff, decide_eq_true_iff, HR.out.1.mem_iff, cand_mem, hm]
          constructor
          · rintro ⟨n', e1, e2⟩
            obtain rfl : m = n' := by simpa using e1
            exact e2
          · intro h
            exact ⟨m, rfl, h⟩
        have HSE := Lib.hid hsee
        clear hmd hm hmem hsee
        have h40 := H40.out
        have hj1 : (j : Int) < N := by omega
        generalize ntakes m p q r = T at *
        have gne : (T != T) = false := by simp
        have zl : ∀ Z : Wd (fun X => LS w X p q r w1.heap.size k R), (Instr.lookup 44 (.map (some w1.heap.size)) (.int .i64 (j : Int)) false).run Try.prog Z.X = .ok (.bool T) Z.X := fun Z => by
          have := Z.ok.m.look (x := j) (by omega)
          rwa [HSE.out] at this
        have y0 : ∀ Z : Wd (fun X => LS w X p q r w1.heap.size k R), Z.X.cell? ⟨b0, off0 + j * 8, none⟩ = some (.string (Nm.str m.s)) := fun Z => (HA.out.at Z.ok.b HM.out).c0
        have y1 : ∀ Z : Wd (fun X => LS w X p q r w1.heap.size k R), Z.X.cell? ⟨b0, off0 + j * 8 + 1, none⟩ = some (.int .i64 m.a) := fun Z => (HA.out.at Z.ok.b HM.out).c1
        have y2 : ∀ Z : Wd (fun X => LS w X p q r w1.heap.size k R), Z.X.cell? ⟨b0, off0 + j * 8 + 2, none⟩ = some (.int .i64 m.b) := fun Z => (HA.out.at Z.ok.b HM.out).c2
        have y3 : ∀ Z : Wd (fun X => LS w X p q r w1.heap.size k R), Z.X.cell? ⟨b0, off0 + j * 8 + 3, none⟩ = some (.int .i64 m.c) := fun Z => (HA.out.at Z.ok.b HM.out).c3
        have y4 : ∀ Z : Wd (fun X => LS w X p q r w1.heap.size k R), Z.X.cell? ⟨b0, off0 + j * 8 + 4, none⟩ = some (.int .i64 m.x) := fun Z => (HA.out.at Z.ok.b HM.out).c4
        have y5 : ∀ Z : Wd (fun X => LS w X p q r w1.heap.size k R), Z.X.cell? ⟨b0, off0 + j * 8 + 5, none⟩ = some (.int .i64 m.y) := fun Z => (HA.out.at Z.ok.b HM.out).c5
        have y6 : ∀ Z : Wd (fun X => LS w X p q r w1.heap.size k R), Z.X.cell? ⟨b0, off0 + j * 8 + 6, none⟩ = some (.int .i64 m.z) := fun Z => (HA.out.at Z.ok.b HM.out).c6
        have y7 : ∀ Z : Wd (fun X => LS w X p q r w1.heap.size k R), Z.X.cell? ⟨b0, off0 + j * 8 + 7, none⟩ = some (.bool m.d) := fun Z => (HA.out.at Z.ok.b HM.out).c7
        have v0 : ∀ Z : Wd (fun X => LS w X p q r w1.heap.size k R), Z.X.cell? ⟨w.heap.size, 0, none⟩ = some (.int .i64 p) := fun Z => Z.ok.v.c3.1
        have v1 : ∀ Z : Wd (fun X => LS w X p q r w1.heap.size k R), Z.X.cell? ⟨w.heap.size, 1, none⟩ = some (.int .i64 q) := fun Z => Z.ok.v.c3.2.1
        have v2 : ∀ Z : Wd (fun X => LS w X p q r w1.heap.size k R), Z.X.cell? ⟨w.heap.size, 2, none⟩ = some (.int .i64 r) := fun Z => Z.ok.v.c3.2.2
        have CT := Lib.hid fun Z : Wd (fun X => LS w X p q r w1.heap.size k R) => Calls.in_class Z (kt.out Z.X) (fun X h1 h2 => LS.on h1 h2)
        go_wp2_with fail
        refine wp_region_class (fun X => LS w X p q r w1.heap.size k R) (by kernel_rfl) (by kernel_rfl) (HZ.out.on (Below.refl _ wr).drew) (fun hne => ?_)
        haveI := hne
        iterate 10 (quiet_step ((go_at_call 19; with_reducible exact CT.out _)))
        refine wpQuiet_nil ?_
        intro z1 hz1
        obtain ⟨⟨zz, E1⟩, rfl⟩ := hz1
        have E1 := Lib.hid E1
        go_wp2_with fail
        go_roundw
        case rel => exact ⟨j + 1, by omega, by go_num, E1.out⟩
        case measure => simp [intOf] <;> omega
      · obtain rfl : j = N := by omega
        have hd6 : decide ((j : Int) < j) = false := by simp
        have hd7 : decide (j < j) = false := by simp
        go_wp2_with fail
        go_ret
        exact ⟨rfl, HZ.out.b⟩
  · have h41 : (40 : Int) < N := by omega
    clear hA hN hNc hc hok hno bp bq br h40
    go_enter Try.func8, Try.ntmps8
    go_wp2_with (go_at_call 9; (with_reducible refine (k0.out _).mono ?_); rintro e w1 ⟨rfl, hb⟩; have X1 := Lib.hid (X0.out.on hb); clear hb)
    go_ret
    exact ⟨rfl, X1.out.b⟩
end Go.Proofs.Ytjpnkecfoealoaa
