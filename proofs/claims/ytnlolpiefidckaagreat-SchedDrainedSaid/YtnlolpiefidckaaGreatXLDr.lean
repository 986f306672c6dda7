import Derived.Test.YtnlolpiefidckaaGreatX5
import Derived.Test.YtnlolpiefidckaaGreatX6
namespace Go.Proofs.YtnlolpiefidckaaGreat.Nm
open Go.RowKit
open Go.Proofs.YtnlolpiefidckaaGreat
set_option linter.unusedVariables false
theorem at_step {l m : List UInt8} {i : Nat} {x : UInt8} (hat : ∀ j, m[j]? = if j < i then (key l)[j]? else l[j]?) (hx : m[i]? = some x) : ∀ j, (m.set i (lowB x))[j]? = if j < i + 1 then (key l)[j]? else l[j]? := by
  intro j
  have hi : i < m.length := (List.getElem?_eq_some_iff.1 hx).1
  have hl : l[i]? = some x := by have := hat i; rw [if_neg (by omega), hx] at this; exact this.symm
  by_cases e : i = j
  · subst e
    rw [List.getElem?_set_self hi, if_pos (by omega)]
    unfold key
    rw [List.getElem?_map, hl]
    rfl
  · rw [List.getElem?_set_ne e, hat j]
    by_cases h : j < i
    · rw [if_pos h, if_pos (by omega)]
    · rw [if_neg h, if_neg (by omega)]
theorem set_same {m : List UInt8} {i : Nat} {x : UInt8} (hx : m[i]? = some x) : m.set i x = m := by
  apply List.ext_getElem?
  intro j
  by_cases e : i = j
  · subst e
    rw [List.getElem?_set_self (List.getElem?_eq_some_iff.1 hx).1, hx]
  · rw [List.getElem?_set_ne e]
theorem lowB_up {x : UInt8} (h : 65 ≤ x.toNat) (k : x.toNat ≤ 90) : (x.toNat : Int) + 32 = ((lowB x).toNat : Int) := by
  rw [lowB_nat]
  have := lowN_is x.toNat
  omega
theorem lowB_id {x : UInt8} (h : ¬ (65 ≤ x.toNat ∧ x.toNat ≤ 90)) : lowB x = x := if_neg h

set_option maxHeartbeats 4000000 in
set_option maxRecDepth 100000 in
theorem refKey_str (l : List UInt8) (w : World) (hs : l.length ≤ 140737488351232) :
    Calls Tryz.prog 73 #[.string (str l)] w (Vc.RetBelow (.tuple #[.string (str (keyOf l)), .int .i64 (errOf l)]) w) := by
  have c1 := refMay_str l w (by omega)
  by_cases hm : may l = true
  · rw [show keyOf l = key l from if_pos hm, show errOf l = 0 from if_pos hm]
    rw [hm] at c1
    have hsz := str_size l
    have hnew := Wi.RowAt.new w l
    generalize hS : str l = SA at *
    have HS := Lib.hid hS
    clear hS
    have C1 := Lib.hid c1
    clear c1
    have hcv := run_bytes_of_string (P := Tryz.prog) w 9 116 5 SA Tryz.underlying9 Tryz.underlying116 Tryz.underlying5
    have HN := Lib.hid (hnew (grownCap w SA.size 0 5))
    clear hnew
    have BA := Lib.hid (((Below.refl w.heap.size w).drew).alloc (Nat.le_refl _) (.cells (bytesRow SA (grownCap w SA.size 0 5)) 5 ((bytesRow SA (grownCap w SA.size 0 5)).size, (bytesRow SA (grownCap w SA.size 0 5)).size + 1)))
    generalize hg : w.heap.size = g at *
    generalize grownCap w SA.size 0 5 = cap at *
    generalize (w.drew.alloc (.cells (bytesRow SA cap) 5 ((bytesRow SA cap).size, (bytesRow SA cap).size + 1))) = W2 at *
    generalize hn : SA.size = n at *
    subst hsz
    go_enter Tryz.func73, Tryz.ntmps73
    go_wp2_with fail
    refine C1.out.mono ?_
    rintro e w' ⟨rfl, rfl⟩
    go_wp2_with fail
    go_loopw [5] (fun c wr => ∃ (i : Nat) (m : List UInt8), c = .int .i64 (i : Nat) ∧ i ≤ l.length ∧ Wi.RowAt wr g m ∧ m.length = l.length ∧ (∀ j, m[j]? = if j < i then (key l)[j]? else l[j]?) ∧ Below g w wr) (fun c _ => l.length - (Lib.intOf c).toNat)
    case atStart => exact ⟨0, l, rfl, by omega, HN.out, rfl, fun j => by rw [if_neg (by omega)], BA.out⟩
    case round =>
      obtain ⟨i, m, rfl, hi, hrow, hml, hat, hbw⟩ := hrel
      have HROW := Lib.hid hrow
      have HAT := Lib.hid hat
      have HBW := Lib.hid hbw
      clear hrow hat hbw
      by_cases hin : i < l.length
      · obtain ⟨x, hx⟩ : ∃ x, m[i]? = some x := ⟨_, List.getElem?_eq_getElem (by omega)⟩
        obtain ⟨hc, hf⟩ := HROW.out.cell hx
        have hxl := x.toNat_lt
        have HML := Lib.hid hml
        clear hml
        go_wp2_with fail
        all_goals
          first
            | (have hu : 65 ≤ x.toNat ∧ x.toNat ≤ 90 := by omega
               rw [lowB_up hu.1 hu.2]
               exact ⟨⟨i + 1, m.set i (lowB x), rfl, by omega, HROW.out.set (by have := HML.out; omega) _, by rw [List.length_set]; exact HML.out, at_step HAT.out hx, HBW.out.setCell (p := ⟨g, i, none⟩) (Nat.le_refl g) _⟩, by simp [Lib.intOf]; omega⟩)
            | (have hu : ¬ (65 ≤ x.toNat ∧ x.toNat ≤ 90) := by omega
               have ht := at_step HAT.out hx
               rw [lowB_id hu, set_same hx] at ht
               exact ⟨⟨i + 1, m, rfl, by omega, HROW.out, HML.out, ht, HBW.out⟩, by simp [Lib.intOf]; omega⟩)
      · have HML := Lib.hid hml
        clear hml
        have hcs := HROW.out.text l.length cap HML.out.symm
        go_wp2_with fail
        go_ret2
        have e : m = key l := by
          apply List.ext_getElem?
          intro j
          rw [HAT.out j]
          by_cases hj : j < i
          · rw [if_pos hj]
          · rw [if_neg hj, List.getElem?_eq_none (by omega), List.getElem?_eq_none (by rw [key_len]; omega)]
        rw [e]
        exact ⟨rfl, by rw [hg]; exact HBW.out⟩
  · rw [show keyOf l = [] from if_neg hm, show errOf l = 5 from if_neg hm]
    rw [Bool.eq_false_iff.2 hm] at c1
    generalize str l = S at *
    have C1 := Lib.hid c1
    clear c1
    go_enter Tryz.func73, Tryz.ntmps73
    go_wp2_with fail
    refine C1.out.mono ?_
    rintro e w' ⟨rfl, rfl⟩
    go_wp2_with fail
    go_ret2
    exact ⟨rfl, Below.refl _ _⟩

end Go.Proofs.YtnlolpiefidckaaGreat.Nm
namespace Go.Proofs.YtnlolpiefidckaaGreat
set_option maxRecDepth 20000
open Go.RowKit
open PS (Tx kOf)
open Go.Proofs.YtnlolpiefidckaaGreat.Nm (str)
open Go.Proofs.YtnlolpiefidckaaGreat.Vc (RetBelow)
set_option maxHeartbeats 4000000 in
theorem one_any (a b : Tx) (w : World) (ha : a.length ≤ 140737488351232) (hb : b.length ≤ 140737488351232) :
    Calls Tryz.prog 28 #[.string (str a), .string (str b)] w (RetBelow (.bool (decide (kOf a = kOf b))) w) := by
  have c1 := Lib.hid (fun W => Nm.refKey_str a W ha)
  have c2 := Lib.hid (fun W => Nm.refKey_str b W hb)
  have hq := Lib.hid (str_tl (kOf a) (kOf b))
  unfold kOf at *
  generalize str (Nm.keyOf a) = KA at *
  generalize str (Nm.keyOf b) = KB at *
  generalize decide (Nm.keyOf a = Nm.keyOf b) = v at *
  obtain rfl := hq.out
  clear hq
  generalize str a = A at *
  generalize str b = B at *
  generalize Nm.errOf a = ea at *
  generalize Nm.errOf b = eb at *
  have h0 := Lib.hid (Below.refl w.heap.size w)
  go_enter Tryz.func28, Tryz.ntmps28
  go_wp2_with fail
  refine (c1.out _).mono ?_
  rintro e w1 ⟨rfl, h1⟩
  have h1 := Lib.hid (h0.out.trans (h1.mono h0.out.size))
  go_wp2_with fail
  refine (c2.out _).mono ?_
  rintro e w2 ⟨rfl, h2⟩
  have h2 := Lib.hid (h1.out.trans (h2.mono h1.out.size))
  go_wp2_with fail
  go_ret
  exact ⟨rfl, h2.out⟩
end Go.Proofs.YtnlolpiefidckaaGreat
namespace Go.Proofs.YtnlolpiefidckaaGreat
set_option maxRecDepth 20000
open Go.RowKit
open PS (Tx putM dropM setM findM Nod Ten Jb kOf St Cm Rp byName row)
open Go.Proofs.YtnlolpiefidckaaGreat.Nm (str)
open Go.Proofs.YtnlolpiefidckaaGreat.Vc (RetBelow fitB I64)
set_option linter.unusedVariables false
theorem dr_step {S : St} (h : Inv S) {nm : Tx} {n : Nod} (hs : Nm.may nm = true) (hf : findM S.N (kOf nm) = some n) (hd : n.d = true) (c : Cm) (hi : CmI c) (ho : c.o ≠ 1 ∧ c.o ≠ 2 ∧ c.o ≠ 3) :
    ∃ n', findM (PS.doC S c).1.N (kOf nm) = some n' ∧ n'.d = true ∧ PS.ask (PS.doC S c).1 ⟨9, nm, [], 0, 0, 0, 0⟩ = ⟨0, [], n'.x, n'.y, n'.z, n'.n⟩ ∧ (c.o = 5 → n' = n ∧ ((PS.doC S c).2.e = 0 → (PS.doC S c).2.s.length ≤ 140737488351232 ∧ decide (kOf (PS.doC S c).2.s = kOf nm) = false)) ∧ (n'.n = n.n ∨ (c.o = 6 ∧ n'.n = n.n - 1)) ∧ 0 ≤ n.n ∧ n.n ≤ 128 := by
  obtain ⟨n', h1, h2, h3, h4⟩ := drained h hf hd c hi ho
  have hu := h.used (onB n.s)
  have hc := (h.n _ _ hf).cnt
  refine ⟨n', h1, h2, ask_used hs h1, fun e => ⟨(h3 e).1, fun he => ?_⟩, h4, by omega, by omega⟩
  obtain ⟨m, q1, q2, q3⟩ := (h3 e).2 he
  rw [q3]
  have := may_len' (h.n _ _ q1).may
  refine ⟨by omega, ?_⟩
  rw [decide_eq_false_iff_not]
  intro e2
  rw [e2, hf] at q1
  injection q1 with q1
  rw [← q1, hd] at q2
  cases q2
set_option maxHeartbeats 8000000 in
theorem law_drained (L0 : List Cm) (A : Option Addr) (N c0 : Nat) (nm : Tx) (L2 : List Cm) (A2 : Option Addr) (N2 c2 : Nat) (w : World) (hA : Rws DC w w.heap.size A L0) (hN : L0.length = N) (hX : ∀ c ∈ L0, CmX c) (hn : nm.length ≤ 140737488351232) (hA2 : Rws DC w w.heap.size A2 L2) (hN2 : L2.length = N2) (hX2 : ∀ c ∈ L2, CmX c) :
    Calls Tryz.prog 11 #[.slice A N c0, .string (str nm), .slice A2 N2 c2] w (RetBelow (.bool true) w) := by
  have HA := Lib.hid hA
  have HN := Lib.hid hN
  have HX := Lib.hid hX
  have HA2 := Lib.hid hA2
  have HN2 := Lib.hid hN2
  have HX2 := Lib.hid hX2
  have HNM := Lib.hid hn
  have HB := Lib.hid (Below.refl w.heap.size w)
  have HAW := Lib.hid (awake_any w)
  have HNW : Hid (∀ X, Below w.heap.size w X → Calls Tryz.prog 13 #[] X fun e Y => ∃ b, e = .returned (.pointer (some ⟨b, 0, none⟩)) ∧ LvE w Y b PS.s0 []) := Lib.hid fun X h => new_lv h [] (fun p hp => by cases hp)
  clear hA hX hN hA2 hX2 hN2 hn
  generalize hNM : str nm = NM
  have HNS := Lib.hid hNM
  clear hNM
  go_enter Tryz.func11, Tryz.ntmps11
  go_wp2_with (first | (go_at_call 12; (with_reducible refine HAW.out.mono ?_); rintro e w0 ⟨rfl, hb⟩; have HB0 := Lib.hid hb; clear hb) | (go_at_call 13; (with_reducible refine (HNW.out _ HB0.out).mono ?_); rintro e w1 ⟨b, rfl, h⟩; have HL0 := Lib.hid h; clear h))
  go_loopw [8] (fun iV wr => ∃ (j : Nat) (S : St), iV = .int .i64 j ∧ j ≤ N ∧ LvE w wr b S []) (fun iV _ => N - (intOf iV).toNat)
  case atStart => exact ⟨0, _, rfl, Nat.zero_le _, HL0.out⟩
  case round =>
    obtain ⟨j, S, rfl, hj, hl⟩ := hrel
    have HL := Lib.hid hl
    clear hl
    by_cases hlt : j < N
    case neg =>
      have g1 : decide ((j : Int) < (N : Int)) = false := by simp; omega
      have g2 : decide (j < N) = false := by simp; omega
      clear hlt hj
      have HDK := Lib.hid fun q => drain_ok HL.out.inv (s := nm) q
      have HD2 : Hid (∀ X G, LvE w X b S G → Calls Tryz.prog 17 #[.pointer (some ⟨b, 0, none⟩), .agg #[.int .i64 2, .string NM, .string ⟨#[]⟩, .int .i64 0, .int .i64 0, .int .i64 0, .int .i64 1]] X fun e Y => e = .returned (rpV (PS.doC S ⟨2, nm, [], 0, 0, 0, 1⟩).2) ∧ LvE w Y b (PS.doC S ⟨2, nm, [], 0, 0, 0, 1⟩).1 G) := Lib.hid fun X G h => HNS.out ▸ do_lv h ⟨2, nm, [], 0, 0, 0, 1⟩ ⟨by show nm.length ≤ _; have := HNM.out; omega, by show ([] : Tx).length ≤ _; simp, i64_0, i64_0, i64_0⟩ ⟨i64_0, i64_0, by unfold I64; show _ ≤ (1:Int) ∧ (1:Int) ≤ _; omega, i64_0⟩
      have HA9 : Hid (∀ S1 : St, ∀ X G, LvE w X b S1 G → Calls Tryz.prog 14 #[.pointer (some ⟨b, 0, none⟩), .agg #[.int .i64 9, .string NM, .string ⟨#[]⟩, .int .i64 0, .int .i64 0, .int .i64 0, .int .i64 0]] X fun e Y => e = .returned (rpV (PS.ask S1 ⟨9, nm, [], 0, 0, 0, 0⟩)) ∧ LvE w Y b S1 G) := Lib.hid fun S1 X G h => HNS.out ▸ ask_lv h ⟨9, nm, [], 0, 0, 0, 0⟩ ⟨by show nm.length ≤ _; have := HNM.out; omega, by show ([] : Tx).length ≤ _; simp, i64_0, i64_0, i64_0⟩
      have hb2 : ∀ W : World, (Instr.build 38 #[(0, .int .i64 2), (1, .string NM), (4, .int .i64 1)]).run Tryz.prog W = .ok (.agg #[.int .i64 2, .string NM, .string ⟨#[]⟩, .int .i64 0, .int .i64 0, .int .i64 0, .int .i64 1]) W := fun W => run_build W 38 _ _ (by kernel_rfl)
      have hfd := fldE
      have hb9 : ∀ W : World, (Instr.build 38 #[(0, .int .i64 9), (1, .string NM)]).run Tryz.prog W = .ok (.agg #[.int .i64 9, .string NM, .string ⟨#[]⟩, .int .i64 0, .int .i64 0, .int .i64 0, .int .i64 0]) W := fun W => run_build W 38 _ _ (by kernel_rfl)
      generalize PS.doC S ⟨2, nm, [], 0, 0, 0, 1⟩ = dr at *
      obtain ⟨S1, er, rsx, ra, rb, rc, rn⟩ := dr
      dsimp only at *
      unfold rpV at HD2
      dsimp only at HD2
      generalize str rsx = rs at *
      by_cases hE : er = 0
      case neg =>
        have he1 : (er == 0) = false := by simp [hE]
        have he2 : (er != 0) = true := by simp [hE]
        clear HDK hE
        go_wp2_with fail
        (with_reducible refine (HD2.out _ _ HL.out).mono ?_)
        rintro e w2 ⟨rfl, h⟩
        have HL2 := Lib.hid h
        clear h
        go_wp2_with fail
        go_ret
        exact ⟨rfl, HL2.out.bel⟩
      case pos =>
      subst hE
      obtain ⟨hmy, n0, hf0, hd0⟩ := HDK.out rfl
      have HMY := Lib.hid hmy
      have HF0 := Lib.hid hf0
      have HD0 := Lib.hid hd0
      clear HDK hmy hf0 hd0
      go_wp2_with fail
      (with_reducible refine (HD2.out _ _ HL.out).mono ?_)
      rintro e w2 ⟨rfl, h⟩
      have HL2 := Lib.hid h
      clear h HD2 HL
      go_wp2_with fail
      go_loopw [9, 10, 11, 12] (fun iV _ _ _ wr => ∃ (j : Nat) (S : St) (n : Nod), iV = .int .i64 j ∧ j ≤ N2 ∧ LvE w wr b S [] ∧ findM S.N (kOf nm) = some n ∧ n.d = true) (fun iV _ _ _ _ => N2 - (intOf iV).toNat)
      case atStart => exact ⟨0, _, _, rfl, Nat.zero_le _, HL2.out, HF0.out, HD0.out⟩
      case round =>
        clear HL2 HF0 HD0 n0 S1 S
        obtain ⟨j, S, n, rfl, hj, hl, hf, hd⟩ := hrel
        have HL := Lib.hid hl
        clear hl
        by_cases hlt : j < N2
        case neg =>
          have g1 : decide ((j : Int) < (N2 : Int)) = false := by simp; omega
          have g2 : decide (j < N2) = false := by simp; omega
          clear hlt hj
          go_wp2_with fail
          go_ret
          exact ⟨rfl, HL.out.bel⟩
        case pos =>
        by_cases h300 : j < 300
        case neg =>
          have g1 : decide ((j : Int) < (N2 : Int)) = true := by simp; omega
          have g2 : decide (j < N2) = true := by simp; omega
          have g3 : decide ((j : Int) < 300) = false := by simp; omega
          have g4 : decide (j < 300) = false := by simp; omega
          clear hlt hj h300
          go_wp2_with fail
          go_ret
          exact ⟨rfl, HL.out.bel⟩
        case pos =>
        have g1 : decide ((j : Int) < (N2 : Int)) = true := by simp; omega
        have g2 : decide (j < N2) = true := by simp; omega
        have g3 : decide ((j : Int) < 300) = true := by simp; omega
        have g4 : decide (j < 300) = true := by simp; omega
        have HLT := Lib.hid hlt
        obtain ⟨c, hc⟩ : ∃ c, L2[j]? = some c := ⟨_, List.getElem?_eq_getElem (by have := HN2.out; omega)⟩
        obtain ⟨ba, off, hA0, hcells⟩ := cm_at HA2.out hc
        have hx := HX2.out c (List.mem_of_getElem? hc)
        have HC1 := Lib.hid hcells
        obtain ⟨p0, p1, p2, p3, p4, p5, p6⟩ := hcells _ HL.out.bel
        rw [hA0]
        by_cases ho : c.o = 1 ∨ c.o = 2 ∨ c.o = 3
        case pos =>
          clear HC1 hcells hc hx
          obtain ⟨co, csx, ctx, ca, cb, cc, cn⟩ := c
          dsimp only at *
          have HF := Lib.hid hf
          have HD := Lib.hid hd
          clear hf hd
          rcases ho with rfl | rfl | rfl
          all_goals
            go_wp2_with fail
            go_roundw
            case rel => exact ⟨j + 1, S, n, by go_num, Nat.succ_le_of_lt HLT.out, HL.out, HF.out, HD.out⟩
            case measure => exact meas_lt HLT.out
        case neg =>
        have hco : c.o ≠ 1 ∧ c.o ≠ 2 ∧ c.o ≠ 3 := by omega
        have HST := Lib.hid (dr_step HL.out.inv HMY.out hf hd c hx.i hco)
        have HW := HA9.out S
        rw [ask_used HMY.out hf] at HW
        have HDO : Hid (∀ X G, LvE w X b S G → Calls Tryz.prog 17 #[.pointer (some ⟨b, 0, none⟩), .agg #[.int .i64 c.o, .string (str c.s), .string (str c.t), .int .i64 c.a, .int .i64 c.b, .int .i64 c.c, .int .i64 c.n]] X fun e Y => e = .returned (.agg #[.int .i64 (PS.doC S c).2.e, .string (str (PS.doC S c).2.s), .int .i64 (PS.doC S c).2.a, .int .i64 (PS.doC S c).2.b, .int .i64 (PS.doC S c).2.c, .int .i64 (PS.doC S c).2.n]) ∧ LvE w Y b (PS.doC S c).1 G) := Lib.hid fun X G h => do_lv h c hx.ok hx.i
        have HN9 := HA9.out (PS.doC S c).1
        obtain ⟨n', f1, f2, f3, f4, f5, f6, f7⟩ := HST.out
        rw [f3] at HN9
        unfold rpV at HW HN9
        dsimp only at HW HN9
        simp only [str_nil] at HW HN9
        have HW := Lib.hid HW
        have HN9 := Lib.hid HN9
        have HF1 := Lib.hid f1
        have HF2 := Lib.hid f2
        have HF4 := Lib.hid f4
        clear f1 f2 f3 f4 HST hcells hc hx HA9 hf hd
        generalize PS.doC S c = dr at *
        obtain ⟨S2, er, rsx, ra, rb, rc, rn⟩ := dr
        dsimp only at *
        obtain ⟨co, csx, ctx, ca, cb, cc, cn⟩ := c
        dsimp only at *
        have hco1 : (co == 1) = false := by simp; omega
        have hco2 : (co == 2) = false := by simp; omega
        have hco3 : (co == 3) = false := by simp; omega
        by_cases h5 : co = 5
        case pos =>
          subst h5
          obtain ⟨rfl, HQ⟩ := HF4.out rfl
          have HQ := Lib.hid HQ
          clear HF4 f5 hco ho
          obtain ⟨ns, na, nb, nc, nx, ny, nz, nn, nd⟩ := n'
          dsimp only at *
          have q1 := fun W => eq35i 0 ⟨#[]⟩ nx ny nz nn W
          have q2 : decide (nn < nn) = false := by simp
          by_cases hE : er = 0
          case pos =>
            subst hE
            have HON := Lib.hid (fun W => one_any rsx nm W (HQ.out rfl).1 HNM.out)
            rw [(HQ.out rfl).2, HNS.out] at HON
            clear HQ
            generalize str rsx = rs at *
            generalize str csx = cs at *
            generalize str ctx = ct at *
            go_wp2_with fail
            (with_reducible refine (HW.out _ _ HL.out).mono ?_)
            rintro e w2 ⟨rfl, h⟩
            have HL2 := Lib.hid (h.box #[.int .i64 0, .string ⟨#[]⟩, .int .i64 nx, .int .i64 ny, .int .i64 nz, .int .i64 nn] 35)
            clear h p0 p1 p2 p3 p4 p5 p6
            obtain ⟨p0, p1, p2, p3, p4, p5, p6⟩ := HC1.out _ HL2.out.bel
            go_wp2_with fail
            (with_reducible refine (HDO.out _ _ HL2.out).mono ?_)
            rintro e w3 ⟨rfl, h⟩
            have HL3 := Lib.hid (h.box #[.int .i64 0, .string rs, .int .i64 ra, .int .i64 rb, .int .i64 rc, .int .i64 rn] 35)
            clear h p0 p1 p2 p3 p4 p5 p6
            go_wp2_with fail
            (with_reducible refine (HN9.out _ _ HL3.out).mono ?_)
            rintro e w4 ⟨rfl, h⟩
            have HL4 := Lib.hid (h.box #[.int .i64 0, .string ⟨#[]⟩, .int .i64 nx, .int .i64 ny, .int .i64 nz, .int .i64 nn] 35)
            clear h
            obtain ⟨p0, p1, p2, p3, p4, p5, p6⟩ := HC1.out _ HL4.out.bel
            obtain ⟨x0, x1, x2, x3, x4, x5, _⟩ := rowc6 (HL4.out.held (p := (w4.heap.size, _)) (List.Mem.head _))
            obtain ⟨y0, y1, y2, y3, y4, y5, _⟩ := rowc6 (HL4.out.held (p := (w3.heap.size, _)) (List.Mem.tail _ (List.Mem.head _)))
            obtain ⟨z0, z1, z2, z3, z4, z5, _⟩ := rowc6 (HL4.out.held (p := (w2.heap.size, _)) (List.Mem.tail _ (List.Mem.tail _ (List.Mem.head _))))
            go_wp2_with fail
            (with_reducible refine (HON.out _).mono ?_)
            rintro e w5 ⟨rfl, h⟩
            have HL5 := Lib.hid (HL4.out.below h)
            clear h p0 p1 p2 p3 p4 p5 p6 x0 x1 x2 x3 x4 x5 y0 y1 y2 y3 y4 y5
            obtain ⟨p0, p1, p2, p3, p4, p5, p6⟩ := HC1.out _ HL5.out.bel
            obtain ⟨x0, x1, x2, x3, x4, x5, _⟩ := rowc6 (HL5.out.held (p := (w4.heap.size, _)) (List.Mem.head _))
            obtain ⟨y0, y1, y2, y3, y4, y5, _⟩ := rowc6 (HL5.out.held (p := (w3.heap.size, _)) (List.Mem.tail _ (List.Mem.head _)))
            obtain ⟨z0, z1, z2, z3, z4, z5, _⟩ := rowc6 (HL5.out.held (p := (w2.heap.size, _)) (List.Mem.tail _ (List.Mem.tail _ (List.Mem.head _))))
            go_wp2_with fail
            go_roundw
            case rel => exact ⟨j + 1, S2, _, by go_num, Nat.succ_le_of_lt HLT.out, HL5.out.less (fun p hp => by cases hp), HF1.out, HF2.out⟩
            case measure => exact meas_lt HLT.out
          case neg =>
            have he1 : (er == 0) = false := by simp [hE]
            have he2 : (er != 0) = true := by simp [hE]
            clear HQ hE
            generalize str rsx = rs at *
            generalize str csx = cs at *
            generalize str ctx = ct at *
            go_wp2_with fail
            (with_reducible refine (HW.out _ _ HL.out).mono ?_)
            rintro e w2 ⟨rfl, h⟩
            have HL2 := Lib.hid (h.box #[.int .i64 0, .string ⟨#[]⟩, .int .i64 nx, .int .i64 ny, .int .i64 nz, .int .i64 nn] 35)
            clear h p0 p1 p2 p3 p4 p5 p6
            obtain ⟨p0, p1, p2, p3, p4, p5, p6⟩ := HC1.out _ HL2.out.bel
            go_wp2_with fail
            (with_reducible refine (HDO.out _ _ HL2.out).mono ?_)
            rintro e w3 ⟨rfl, h⟩
            have HL3 := Lib.hid (h.box #[.int .i64 er, .string rs, .int .i64 ra, .int .i64 rb, .int .i64 rc, .int .i64 rn] 35)
            clear h p0 p1 p2 p3 p4 p5 p6
            go_wp2_with fail
            (with_reducible refine (HN9.out _ _ HL3.out).mono ?_)
            rintro e w4 ⟨rfl, h⟩
            have HL4 := Lib.hid (h.box #[.int .i64 0, .string ⟨#[]⟩, .int .i64 nx, .int .i64 ny, .int .i64 nz, .int .i64 nn] 35)
            clear h
            obtain ⟨p0, p1, p2, p3, p4, p5, p6⟩ := HC1.out _ HL4.out.bel
            obtain ⟨x0, x1, x2, x3, x4, x5, _⟩ := rowc6 (HL4.out.held (p := (w4.heap.size, _)) (List.Mem.head _))
            obtain ⟨y0, y1, y2, y3, y4, y5, _⟩ := rowc6 (HL4.out.held (p := (w3.heap.size, _)) (List.Mem.tail _ (List.Mem.head _)))
            obtain ⟨z0, z1, z2, z3, z4, z5, _⟩ := rowc6 (HL4.out.held (p := (w2.heap.size, _)) (List.Mem.tail _ (List.Mem.tail _ (List.Mem.head _))))
            go_wp2_with fail
            go_wp2_with fail
            go_roundw
            case rel => exact ⟨j + 1, S2, _, by go_num, Nat.succ_le_of_lt HLT.out, HL4.out.less (fun p hp => by cases hp), HF1.out, HF2.out⟩
            case measure => exact meas_lt HLT.out
        case neg =>
        have he5 : (co == 5) = false := by simp; omega
        clear h5 HF4
        obtain ⟨ns, na, nb, nc, nx, ny, nz, nn, nd⟩ := n
        obtain ⟨ns', na', nb', nc', nx', ny', nz', nn', nd'⟩ := n'
        dsimp only at *
        generalize str rsx = rs at *
        generalize str csx = cs at *
        generalize str ctx = ct at *
        rcases f5 with rfl | ⟨rfl, rfl⟩
        · have q2 : decide (nn' < nn') = false := by simp
          go_wp2_with fail
          (with_reducible refine (HW.out _ _ HL.out).mono ?_)
          rintro e w2 ⟨rfl, h⟩
          have HL2 := Lib.hid (h.box #[.int .i64 0, .string ⟨#[]⟩, .int .i64 nx, .int .i64 ny, .int .i64 nz, .int .i64 nn'] 35)
          clear h p0 p1 p2 p3 p4 p5 p6
          obtain ⟨p0, p1, p2, p3, p4, p5, p6⟩ := HC1.out _ HL2.out.bel
          go_wp2_with fail
          (with_reducible refine (HDO.out _ _ HL2.out).mono ?_)
          rintro e w3 ⟨rfl, h⟩
          have HL3 := Lib.hid (h.box #[.int .i64 er, .string rs, .int .i64 ra, .int .i64 rb, .int .i64 rc, .int .i64 rn] 35)
          clear h p0 p1 p2 p3 p4 p5 p6
          go_wp2_with fail
          (with_reducible refine (HN9.out _ _ HL3.out).mono ?_)
          rintro e w4 ⟨rfl, h⟩
          have HL4 := Lib.hid (h.box #[.int .i64 0, .string ⟨#[]⟩, .int .i64 nx', .int .i64 ny', .int .i64 nz', .int .i64 (nn')] 35)
          clear h
          obtain ⟨p0, p1, p2, p3, p4, p5, p6⟩ := HC1.out _ HL4.out.bel
          obtain ⟨x0, x1, x2, x3, x4, x5, _⟩ := rowc6 (HL4.out.held (p := (w4.heap.size, _)) (List.Mem.head _))
          obtain ⟨y0, y1, y2, y3, y4, y5, _⟩ := rowc6 (HL4.out.held (p := (w3.heap.size, _)) (List.Mem.tail _ (List.Mem.head _)))
          obtain ⟨z0, z1, z2, z3, z4, z5, _⟩ := rowc6 (HL4.out.held (p := (w2.heap.size, _)) (List.Mem.tail _ (List.Mem.tail _ (List.Mem.head _))))
          go_wp2_with fail
          go_wp2_with fail
          go_roundw
          case rel => exact ⟨j + 1, S2, _, by go_num, Nat.succ_le_of_lt HLT.out, HL4.out.less (fun p hp => by cases hp), HF1.out, HF2.out⟩
          case measure => exact meas_lt HLT.out
        · have q2 : decide (nn < nn - 1) = false := by simp; omega
          have q3 : decide (nn - 1 < nn) = true := by simp; omega
          have q4 : (nn - 1 != nn - 1) = false := by simp
          have q5 : (nn - 1 == nn - 1) = true := by simp
          go_wp2_with fail
          (with_reducible refine (HW.out _ _ HL.out).mono ?_)
          rintro e w2 ⟨rfl, h⟩
          have HL2 := Lib.hid (h.box #[.int .i64 0, .string ⟨#[]⟩, .int .i64 nx, .int .i64 ny, .int .i64 nz, .int .i64 nn] 35)
          clear h p0 p1 p2 p3 p4 p5 p6
          obtain ⟨p0, p1, p2, p3, p4, p5, p6⟩ := HC1.out _ HL2.out.bel
          go_wp2_with fail
          (with_reducible refine (HDO.out _ _ HL2.out).mono ?_)
          rintro e w3 ⟨rfl, h⟩
          have HL3 := Lib.hid (h.box #[.int .i64 er, .string rs, .int .i64 ra, .int .i64 rb, .int .i64 rc, .int .i64 rn] 35)
          clear h p0 p1 p2 p3 p4 p5 p6
          go_wp2_with fail
          (with_reducible refine (HN9.out _ _ HL3.out).mono ?_)
          rintro e w4 ⟨rfl, h⟩
          have HL4 := Lib.hid (h.box #[.int .i64 0, .string ⟨#[]⟩, .int .i64 nx', .int .i64 ny', .int .i64 nz', .int .i64 (nn - 1)] 35)
          clear h
          obtain ⟨p0, p1, p2, p3, p4, p5, p6⟩ := HC1.out _ HL4.out.bel
          obtain ⟨x0, x1, x2, x3, x4, x5, _⟩ := rowc6 (HL4.out.held (p := (w4.heap.size, _)) (List.Mem.head _))
          obtain ⟨y0, y1, y2, y3, y4, y5, _⟩ := rowc6 (HL4.out.held (p := (w3.heap.size, _)) (List.Mem.tail _ (List.Mem.head _)))
          obtain ⟨z0, z1, z2, z3, z4, z5, _⟩ := rowc6 (HL4.out.held (p := (w2.heap.size, _)) (List.Mem.tail _ (List.Mem.tail _ (List.Mem.head _))))
          go_wp2_with fail
          go_wp2_with fail
          go_roundw
          case rel => exact ⟨j + 1, S2, _, by go_num, Nat.succ_le_of_lt HLT.out, HL4.out.less (fun p hp => by cases hp), HF1.out, HF2.out⟩
          case measure => exact meas_lt HLT.out
    case pos =>
    by_cases h300 : j < 300
    case neg =>
      have g1 : decide ((j : Int) < (N : Int)) = true := by simp; omega
      have g2 : decide (j < N) = true := by simp; omega
      have g3 : decide ((j : Int) < 300) = false := by simp; omega
      have g4 : decide (j < 300) = false := by simp; omega
      clear hlt hj h300
      have HDK := Lib.hid fun q => drain_ok HL.out.inv (s := nm) q
      have HD2 : Hid (∀ X G, LvE w X b S G → Calls Tryz.prog 17 #[.pointer (some ⟨b, 0, none⟩), .agg #[.int .i64 2, .string NM, .string ⟨#[]⟩, .int .i64 0, .int .i64 0, .int .i64 0, .int .i64 1]] X fun e Y => e = .returned (rpV (PS.doC S ⟨2, nm, [], 0, 0, 0, 1⟩).2) ∧ LvE w Y b (PS.doC S ⟨2, nm, [], 0, 0, 0, 1⟩).1 G) := Lib.hid fun X G h => HNS.out ▸ do_lv h ⟨2, nm, [], 0, 0, 0, 1⟩ ⟨by show nm.length ≤ _; have := HNM.out; omega, by show ([] : Tx).length ≤ _; simp, i64_0, i64_0, i64_0⟩ ⟨i64_0, i64_0, by unfold I64; show _ ≤ (1:Int) ∧ (1:Int) ≤ _; omega, i64_0⟩
      have HA9 : Hid (∀ S1 : St, ∀ X G, LvE w X b S1 G → Calls Tryz.prog 14 #[.pointer (some ⟨b, 0, none⟩), .agg #[.int .i64 9, .string NM, .string ⟨#[]⟩, .int .i64 0, .int .i64 0, .int .i64 0, .int .i64 0]] X fun e Y => e = .returned (rpV (PS.ask S1 ⟨9, nm, [], 0, 0, 0, 0⟩)) ∧ LvE w Y b S1 G) := Lib.hid fun S1 X G h => HNS.out ▸ ask_lv h ⟨9, nm, [], 0, 0, 0, 0⟩ ⟨by show nm.length ≤ _; have := HNM.out; omega, by show ([] : Tx).length ≤ _; simp, i64_0, i64_0, i64_0⟩
      have hb2 : ∀ W : World, (Instr.build 38 #[(0, .int .i64 2), (1, .string NM), (4, .int .i64 1)]).run Tryz.prog W = .ok (.agg #[.int .i64 2, .string NM, .string ⟨#[]⟩, .int .i64 0, .int .i64 0, .int .i64 0, .int .i64 1]) W := fun W => run_build W 38 _ _ (by kernel_rfl)
      have hfd := fldE
      have hb9 : ∀ W : World, (Instr.build 38 #[(0, .int .i64 9), (1, .string NM)]).run Tryz.prog W = .ok (.agg #[.int .i64 9, .string NM, .string ⟨#[]⟩, .int .i64 0, .int .i64 0, .int .i64 0, .int .i64 0]) W := fun W => run_build W 38 _ _ (by kernel_rfl)
      generalize PS.doC S ⟨2, nm, [], 0, 0, 0, 1⟩ = dr at *
      obtain ⟨S1, er, rsx, ra, rb, rc, rn⟩ := dr
      dsimp only at *
      unfold rpV at HD2
      dsimp only at HD2
      generalize str rsx = rs at *
      by_cases hE : er = 0
      case neg =>
        have he1 : (er == 0) = false := by simp [hE]
        have he2 : (er != 0) = true := by simp [hE]
        clear HDK hE
        go_wp2_with fail
        (with_reducible refine (HD2.out _ _ HL.out).mono ?_)
        rintro e w2 ⟨rfl, h⟩
        have HL2 := Lib.hid h
        clear h
        go_wp2_with fail
        go_ret
        exact ⟨rfl, HL2.out.bel⟩
      case pos =>
      subst hE
      obtain ⟨hmy, n0, hf0, hd0⟩ := HDK.out rfl
      have HMY := Lib.hid hmy
      have HF0 := Lib.hid hf0
      have HD0 := Lib.hid hd0
      clear HDK hmy hf0 hd0
      go_wp2_with fail
      (with_reducible refine (HD2.out _ _ HL.out).mono ?_)
      rintro e w2 ⟨rfl, h⟩
      have HL2 := Lib.hid h
      clear h HD2 HL
      go_wp2_with fail
      go_loopw [9, 10, 11, 12] (fun iV _ _ _ wr => ∃ (j : Nat) (S : St) (n : Nod), iV = .int .i64 j ∧ j ≤ N2 ∧ LvE w wr b S [] ∧ findM S.N (kOf nm) = some n ∧ n.d = true) (fun iV _ _ _ _ => N2 - (intOf iV).toNat)
      case atStart => exact ⟨0, _, _, rfl, Nat.zero_le _, HL2.out, HF0.out, HD0.out⟩
      case round =>
        clear HL2 HF0 HD0 n0 S1 S
        obtain ⟨j, S, n, rfl, hj, hl, hf, hd⟩ := hrel
        have HL := Lib.hid hl
        clear hl
        by_cases hlt : j < N2
        case neg =>
          have g1 : decide ((j : Int) < (N2 : Int)) = false := by simp; omega
          have g2 : decide (j < N2) = false := by simp; omega
          clear hlt hj
          go_wp2_with fail
          go_ret
          exact ⟨rfl, HL.out.bel⟩
        case pos =>
        by_cases h300 : j < 300
        case neg =>
          have g1 : decide ((j : Int) < (N2 : Int)) = true := by simp; omega
          have g2 : decide (j < N2) = true := by simp; omega
          have g3 : decide ((j : Int) < 300) = false := by simp; omega
          have g4 : decide (j < 300) = false := by simp; omega
          clear hlt hj h300
          go_wp2_with fail
          go_ret
          exact ⟨rfl, HL.out.bel⟩
        case pos =>
        have g1 : decide ((j : Int) < (N2 : Int)) = true := by simp; omega
        have g2 : decide (j < N2) = true := by simp; omega
        have g3 : decide ((j : Int) < 300) = true := by simp; omega
        have g4 : decide (j < 300) = true := by simp; omega
        have HLT := Lib.hid hlt
        obtain ⟨c, hc⟩ : ∃ c, L2[j]? = some c := ⟨_, List.getElem?_eq_getElem (by have := HN2.out; omega)⟩
        obtain ⟨ba, off, hA0, hcells⟩ := cm_at HA2.out hc
        have hx := HX2.out c (List.mem_of_getElem? hc)
        have HC1 := Lib.hid hcells
        obtain ⟨p0, p1, p2, p3, p4, p5, p6⟩ := hcells _ HL.out.bel
        rw [hA0]
        by_cases ho : c.o = 1 ∨ c.o = 2 ∨ c.o = 3
        case pos =>
          clear HC1 hcells hc hx
          obtain ⟨co, csx, ctx, ca, cb, cc, cn⟩ := c
          dsimp only at *
          have HF := Lib.hid hf
          have HD := Lib.hid hd
          clear hf hd
          rcases ho with rfl | rfl | rfl
          all_goals
            go_wp2_with fail
            go_roundw
            case rel => exact ⟨j + 1, S, n, by go_num, Nat.succ_le_of_lt HLT.out, HL.out, HF.out, HD.out⟩
            case measure => exact meas_lt HLT.out
        case neg =>
        have hco : c.o ≠ 1 ∧ c.o ≠ 2 ∧ c.o ≠ 3 := by omega
        have HST := Lib.hid (dr_step HL.out.inv HMY.out hf hd c hx.i hco)
        have HW := HA9.out S
        rw [ask_used HMY.out hf] at HW
        have HDO : Hid (∀ X G, LvE w X b S G → Calls Tryz.prog 17 #[.pointer (some ⟨b, 0, none⟩), .agg #[.int .i64 c.o, .string (str c.s), .string (str c.t), .int .i64 c.a, .int .i64 c.b, .int .i64 c.c, .int .i64 c.n]] X fun e Y => e = .returned (.agg #[.int .i64 (PS.doC S c).2.e, .string (str (PS.doC S c).2.s), .int .i64 (PS.doC S c).2.a, .int .i64 (PS.doC S c).2.b, .int .i64 (PS.doC S c).2.c, .int .i64 (PS.doC S c).2.n]) ∧ LvE w Y b (PS.doC S c).1 G) := Lib.hid fun X G h => do_lv h c hx.ok hx.i
        have HN9 := HA9.out (PS.doC S c).1
        obtain ⟨n', f1, f2, f3, f4, f5, f6, f7⟩ := HST.out
        rw [f3] at HN9
        unfold rpV at HW HN9
        dsimp only at HW HN9
        simp only [str_nil] at HW HN9
        have HW := Lib.hid HW
        have HN9 := Lib.hid HN9
        have HF1 := Lib.hid f1
        have HF2 := Lib.hid f2
        have HF4 := Lib.hid f4
        clear f1 f2 f3 f4 HST hcells hc hx HA9 hf hd
        generalize PS.doC S c = dr at *
        obtain ⟨S2, er, rsx, ra, rb, rc, rn⟩ := dr
        dsimp only at *
        obtain ⟨co, csx, ctx, ca, cb, cc, cn⟩ := c
        dsimp only at *
        have hco1 : (co == 1) = false := by simp; omega
        have hco2 : (co == 2) = false := by simp; omega
        have hco3 : (co == 3) = false := by simp; omega
        by_cases h5 : co = 5
        case pos =>
          subst h5
          obtain ⟨rfl, HQ⟩ := HF4.out rfl
          have HQ := Lib.hid HQ
          clear HF4 f5 hco ho
          obtain ⟨ns, na, nb, nc, nx, ny, nz, nn, nd⟩ := n'
          dsimp only at *
          have q1 := fun W => eq35i 0 ⟨#[]⟩ nx ny nz nn W
          have q2 : decide (nn < nn) = false := by simp
          by_cases hE : er = 0
          case pos =>
            subst hE
            have HON := Lib.hid (fun W => one_any rsx nm W (HQ.out rfl).1 HNM.out)
            rw [(HQ.out rfl).2, HNS.out] at HON
            clear HQ
            generalize str rsx = rs at *
            generalize str csx = cs at *
            generalize str ctx = ct at *
            go_wp2_with fail
            (with_reducible refine (HW.out _ _ HL.out).mono ?_)
            rintro e w2 ⟨rfl, h⟩
            have HL2 := Lib.hid (h.box #[.int .i64 0, .string ⟨#[]⟩, .int .i64 nx, .int .i64 ny, .int .i64 nz, .int .i64 nn] 35)
            clear h p0 p1 p2 p3 p4 p5 p6
            obtain ⟨p0, p1, p2, p3, p4, p5, p6⟩ := HC1.out _ HL2.out.bel
            go_wp2_with fail
            (with_reducible refine (HDO.out _ _ HL2.out).mono ?_)
            rintro e w3 ⟨rfl, h⟩
            have HL3 := Lib.hid (h.box #[.int .i64 0, .string rs, .int .i64 ra, .int .i64 rb, .int .i64 rc, .int .i64 rn] 35)
            clear h p0 p1 p2 p3 p4 p5 p6
            go_wp2_with fail
            (with_reducible refine (HN9.out _ _ HL3.out).mono ?_)
            rintro e w4 ⟨rfl, h⟩
            have HL4 := Lib.hid (h.box #[.int .i64 0, .string ⟨#[]⟩, .int .i64 nx, .int .i64 ny, .int .i64 nz, .int .i64 nn] 35)
            clear h
            obtain ⟨p0, p1, p2, p3, p4, p5, p6⟩ := HC1.out _ HL4.out.bel
            obtain ⟨x0, x1, x2, x3, x4, x5, _⟩ := rowc6 (HL4.out.held (p := (w4.heap.size, _)) (List.Mem.head _))
            obtain ⟨y0, y1, y2, y3, y4, y5, _⟩ := rowc6 (HL4.out.held (p := (w3.heap.size, _)) (List.Mem.tail _ (List.Mem.head _)))
            obtain ⟨z0, z1, z2, z3, z4, z5, _⟩ := rowc6 (HL4.out.held (p := (w2.heap.size, _)) (List.Mem.tail _ (List.Mem.tail _ (List.Mem.head _))))
            go_wp2_with fail
            (with_reducible refine (HON.out _).mono ?_)
            rintro e w5 ⟨rfl, h⟩
            have HL5 := Lib.hid (HL4.out.below h)
            clear h p0 p1 p2 p3 p4 p5 p6 x0 x1 x2 x3 x4 x5 y0 y1 y2 y3 y4 y5
            obtain ⟨p0, p1, p2, p3, p4, p5, p6⟩ := HC1.out _ HL5.out.bel
            obtain ⟨x0, x1, x2, x3, x4, x5, _⟩ := rowc6 (HL5.out.held (p := (w4.heap.size, _)) (List.Mem.head _))
            obtain ⟨y0, y1, y2, y3, y4, y5, _⟩ := rowc6 (HL5.out.held (p := (w3.heap.size, _)) (List.Mem.tail _ (List.Mem.head _)))
            obtain ⟨z0, z1, z2, z3, z4, z5, _⟩ := rowc6 (HL5.out.held (p := (w2.heap.size, _)) (List.Mem.tail _ (List.Mem.tail _ (List.Mem.head _))))
            go_wp2_with fail
            go_roundw
            case rel => exact ⟨j + 1, S2, _, by go_num, Nat.succ_le_of_lt HLT.out, HL5.out.less (fun p hp => by cases hp), HF1.out, HF2.out⟩
            case measure => exact meas_lt HLT.out
          case neg =>
            have he1 : (er == 0) = false := by simp [hE]
            have he2 : (er != 0) = true := by simp [hE]
            clear HQ hE
            generalize str rsx = rs at *
            generalize str csx = cs at *
            generalize str ctx = ct at *
            go_wp2_with fail
            (with_reducible refine (HW.out _ _ HL.out).mono ?_)
            rintro e w2 ⟨rfl, h⟩
            have HL2 := Lib.hid (h.box #[.int .i64 0, .string ⟨#[]⟩, .int .i64 nx, .int .i64 ny, .int .i64 nz, .int .i64 nn] 35)
            clear h p0 p1 p2 p3 p4 p5 p6
            obtain ⟨p0, p1, p2, p3, p4, p5, p6⟩ := HC1.out _ HL2.out.bel
            go_wp2_with fail
            (with_reducible refine (HDO.out _ _ HL2.out).mono ?_)
            rintro e w3 ⟨rfl, h⟩
            have HL3 := Lib.hid (h.box #[.int .i64 er, .string rs, .int .i64 ra, .int .i64 rb, .int .i64 rc, .int .i64 rn] 35)
            clear h p0 p1 p2 p3 p4 p5 p6
            go_wp2_with fail
            (with_reducible refine (HN9.out _ _ HL3.out).mono ?_)
            rintro e w4 ⟨rfl, h⟩
            have HL4 := Lib.hid (h.box #[.int .i64 0, .string ⟨#[]⟩, .int .i64 nx, .int .i64 ny, .int .i64 nz, .int .i64 nn] 35)
            clear h
            obtain ⟨p0, p1, p2, p3, p4, p5, p6⟩ := HC1.out _ HL4.out.bel
            obtain ⟨x0, x1, x2, x3, x4, x5, _⟩ := rowc6 (HL4.out.held (p := (w4.heap.size, _)) (List.Mem.head _))
            obtain ⟨y0, y1, y2, y3, y4, y5, _⟩ := rowc6 (HL4.out.held (p := (w3.heap.size, _)) (List.Mem.tail _ (List.Mem.head _)))
            obtain ⟨z0, z1, z2, z3, z4, z5, _⟩ := rowc6 (HL4.out.held (p := (w2.heap.size, _)) (List.Mem.tail _ (List.Mem.tail _ (List.Mem.head _))))
            go_wp2_with fail
            go_wp2_with fail
            go_roundw
            case rel => exact ⟨j + 1, S2, _, by go_num, Nat.succ_le_of_lt HLT.out, HL4.out.less (fun p hp => by cases hp), HF1.out, HF2.out⟩
            case measure => exact meas_lt HLT.out
        case neg =>
        have he5 : (co == 5) = false := by simp; omega
        clear h5 HF4
        obtain ⟨ns, na, nb, nc, nx, ny, nz, nn, nd⟩ := n
        obtain ⟨ns', na', nb', nc', nx', ny', nz', nn', nd'⟩ := n'
        dsimp only at *
        generalize str rsx = rs at *
        generalize str csx = cs at *
        generalize str ctx = ct at *
        rcases f5 with rfl | ⟨rfl, rfl⟩
        · have q2 : decide (nn' < nn') = false := by simp
          go_wp2_with fail
          (with_reducible refine (HW.out _ _ HL.out).mono ?_)
          rintro e w2 ⟨rfl, h⟩
          have HL2 := Lib.hid (h.box #[.int .i64 0, .string ⟨#[]⟩, .int .i64 nx, .int .i64 ny, .int .i64 nz, .int .i64 nn'] 35)
          clear h p0 p1 p2 p3 p4 p5 p6
          obtain ⟨p0, p1, p2, p3, p4, p5, p6⟩ := HC1.out _ HL2.out.bel
          go_wp2_with fail
          (with_reducible refine (HDO.out _ _ HL2.out).mono ?_)
          rintro e w3 ⟨rfl, h⟩
          have HL3 := Lib.hid (h.box #[.int .i64 er, .string rs, .int .i64 ra, .int .i64 rb, .int .i64 rc, .int .i64 rn] 35)
          clear h p0 p1 p2 p3 p4 p5 p6
          go_wp2_with fail
          (with_reducible refine (HN9.out _ _ HL3.out).mono ?_)
          rintro e w4 ⟨rfl, h⟩
          have HL4 := Lib.hid (h.box #[.int .i64 0, .string ⟨#[]⟩, .int .i64 nx', .int .i64 ny', .int .i64 nz', .int .i64 (nn')] 35)
          clear h
          obtain ⟨p0, p1, p2, p3, p4, p5, p6⟩ := HC1.out _ HL4.out.bel
          obtain ⟨x0, x1, x2, x3, x4, x5, _⟩ := rowc6 (HL4.out.held (p := (w4.heap.size, _)) (List.Mem.head _))
          obtain ⟨y0, y1, y2, y3, y4, y5, _⟩ := rowc6 (HL4.out.held (p := (w3.heap.size, _)) (List.Mem.tail _ (List.Mem.head _)))
          obtain ⟨z0, z1, z2, z3, z4, z5, _⟩ := rowc6 (HL4.out.held (p := (w2.heap.size, _)) (List.Mem.tail _ (List.Mem.tail _ (List.Mem.head _))))
          go_wp2_with fail
          go_wp2_with fail
          go_roundw
          case rel => exact ⟨j + 1, S2, _, by go_num, Nat.succ_le_of_lt HLT.out, HL4.out.less (fun p hp => by cases hp), HF1.out, HF2.out⟩
          case measure => exact meas_lt HLT.out
        · have q2 : decide (nn < nn - 1) = false := by simp; omega
          have q3 : decide (nn - 1 < nn) = true := by simp; omega
          have q4 : (nn - 1 != nn - 1) = false := by simp
          have q5 : (nn - 1 == nn - 1) = true := by simp
          go_wp2_with fail
          (with_reducible refine (HW.out _ _ HL.out).mono ?_)
          rintro e w2 ⟨rfl, h⟩
          have HL2 := Lib.hid (h.box #[.int .i64 0, .string ⟨#[]⟩, .int .i64 nx, .int .i64 ny, .int .i64 nz, .int .i64 nn] 35)
          clear h p0 p1 p2 p3 p4 p5 p6
          obtain ⟨p0, p1, p2, p3, p4, p5, p6⟩ := HC1.out _ HL2.out.bel
          go_wp2_with fail
          (with_reducible refine (HDO.out _ _ HL2.out).mono ?_)
          rintro e w3 ⟨rfl, h⟩
          have HL3 := Lib.hid (h.box #[.int .i64 er, .string rs, .int .i64 ra, .int .i64 rb, .int .i64 rc, .int .i64 rn] 35)
          clear h p0 p1 p2 p3 p4 p5 p6
          go_wp2_with fail
          (with_reducible refine (HN9.out _ _ HL3.out).mono ?_)
          rintro e w4 ⟨rfl, h⟩
          have HL4 := Lib.hid (h.box #[.int .i64 0, .string ⟨#[]⟩, .int .i64 nx', .int .i64 ny', .int .i64 nz', .int .i64 (nn - 1)] 35)
          clear h
          obtain ⟨p0, p1, p2, p3, p4, p5, p6⟩ := HC1.out _ HL4.out.bel
          obtain ⟨x0, x1, x2, x3, x4, x5, _⟩ := rowc6 (HL4.out.held (p := (w4.heap.size, _)) (List.Mem.head _))
          obtain ⟨y0, y1, y2, y3, y4, y5, _⟩ := rowc6 (HL4.out.held (p := (w3.heap.size, _)) (List.Mem.tail _ (List.Mem.head _)))
          obtain ⟨z0, z1, z2, z3, z4, z5, _⟩ := rowc6 (HL4.out.held (p := (w2.heap.size, _)) (List.Mem.tail _ (List.Mem.tail _ (List.Mem.head _))))
          go_wp2_with fail
          go_wp2_with fail
          go_roundw
          case rel => exact ⟨j + 1, S2, _, by go_num, Nat.succ_le_of_lt HLT.out, HL4.out.less (fun p hp => by cases hp), HF1.out, HF2.out⟩
          case measure => exact meas_lt HLT.out
    case pos =>
    have g1 : decide ((j : Int) < (N : Int)) = true := by simp; omega
    have g2 : decide (j < N) = true := by simp; omega
    have g3 : decide ((j : Int) < 300) = true := by simp; omega
    have g4 : decide (j < 300) = true := by simp; omega
    have HLT := Lib.hid hlt
    obtain ⟨c, hc⟩ : ∃ c, L0[j]? = some c := ⟨_, List.getElem?_eq_getElem (by have := HN.out; omega)⟩
    obtain ⟨ba, off, hA0, hcells⟩ := cm_at HA.out hc
    have hx := HX.out c (List.mem_of_getElem? hc)
    have HDO : Hid (∀ X G, LvE w X b S G → Calls Tryz.prog 17 #[.pointer (some ⟨b, 0, none⟩), .agg #[.int .i64 c.o, .string (str c.s), .string (str c.t), .int .i64 c.a, .int .i64 c.b, .int .i64 c.c, .int .i64 c.n]] X fun e Y => e = .returned (.agg #[.int .i64 (PS.doC S c).2.e, .string (str (PS.doC S c).2.s), .int .i64 (PS.doC S c).2.a, .int .i64 (PS.doC S c).2.b, .int .i64 (PS.doC S c).2.c, .int .i64 (PS.doC S c).2.n]) ∧ LvE w Y b (PS.doC S c).1 G) := Lib.hid fun X G h => do_lv h c hx.ok hx.i
    obtain ⟨p0, p1, p2, p3, p4, p5, p6⟩ := hcells _ HL.out.bel
    clear hcells hc hx
    generalize PS.doC S c = dr at *
    obtain ⟨S2, er, rsx, ra, rb, rc, rn⟩ := dr
    dsimp only at *
    obtain ⟨co, csx, ctx, ca, cb, cc, cn⟩ := c
    dsimp only at *
    generalize str rsx = rs at *
    generalize str csx = cs at *
    generalize str ctx = ct at *
    rw [hA0]
    go_wp2_with fail
    (with_reducible refine (HDO.out _ _ HL.out).mono ?_)
    rintro e w3 ⟨rfl, h⟩
    have HL3 := Lib.hid h
    clear h p0 p1 p2 p3 p4 p5 p6
    go_wp2_with fail
    go_roundw
    case rel => exact ⟨j + 1, S2, by go_num, Nat.succ_le_of_lt HLT.out, HL3.out⟩
    case measure => exact meas_lt HLT.out
end Go.Proofs.YtnlolpiefidckaaGreat
