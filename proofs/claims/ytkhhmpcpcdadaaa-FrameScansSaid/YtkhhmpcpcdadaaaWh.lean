import Derived.Test.YtkhhmpcpcdadaaaSa
namespace Go.Proofs.Ytkhhmpcpcdadaaa
open Go.RowKit
set_option linter.unusedVariables false

theorem Fr.flat_step {ls : List (List UInt8)} {k : Nat} {l : List UInt8} (h : ls[k]? = some l) : Fr.flat (ls.take (k + 1)) = Fr.flat (ls.take k) ++ Fr.rcd l := by
  obtain ⟨hk, rfl⟩ := List.getElem?_eq_some_iff.1 h
  rw [List.take_succ_eq_append_getElem hk, Fr.flat_snoc]
theorem Fr.ok_step {ls : List (List UInt8)} {k : Nat} {l : List UInt8} (h : ls[k]? = some l) (ho : Fr.Ok (ls.take k)) (hl : l.length ≤ 4096) : Fr.Ok (ls.take (k + 1)) := by
  obtain ⟨hk, rfl⟩ := List.getElem?_eq_some_iff.1 h
  rw [List.take_succ_eq_append_getElem hk]
  intro p hp
  rcases List.mem_append.1 hp with h | h
  · exact ho p h
  · rw [List.mem_singleton] at h; rw [h]; exact hl
theorem Fr.flat_take_bd (ls : List (List UInt8)) (k : Nat) (hn : ls.length ≤ 60) (ht : Fr.tot ls ≤ 65536) : (Fr.flat (ls.take k)).length ≤ 66016 := by
  have := Fr.flat_take_le ls k
  have := Fr.flat_length ls
  omega
/-- what is whole -/
def WholePost (ls : List (List UInt8)) (w : World) (e : Ending) (w' : World) : Prop := Below w.heap.size w w' ∧
  ((Fr.Ok ls ∧ ∃ A c, e = .returned (.tuple #[.slice A (Fr.flat ls).length c, .bool true]) ∧ OwnB w' w.heap.size (.slice A (Fr.flat ls).length c) (Fr.flat ls)) ∨ (¬ Fr.Ok ls ∧ e = .returned (.tuple #[.slice none 0 0, .bool false])))
def WRel (ls : List (List UInt8)) (n : Nat) (w : World) (bv i : Value) (wr : World) : Prop :=
  ∃ k : Nat, k ≤ n ∧ i = .int .i64 k ∧ Fr.Ok (ls.take k) ∧ OwnB wr w.heap.size bv (Fr.flat (ls.take k)) ∧ Below w.heap.size w wr
set_option maxRecDepth 20000 in
theorem whole_any (ls : List (List UInt8)) (A : Option Addr) (n c B : Nat) (w : World) (hB : B ≤ w.heap.size) (h1 : RowsAt w B A ls) (hn : ls.length = n) (hn60 : n ≤ 60) (ht : Fr.tot ls ≤ 65536) :
    Calls Try.prog 17 #[.slice A n c] w (WholePost ls w) := by
  have H1 := Lib.hid h1
  have HN := Lib.hid hn
  have HT := Lib.hid ht
  have HNEW := Lib.hid (OwnB.new w)
  clear h1 hn ht
  go_enter Try.func17, Try.ntmps17
  go_wp2_with fail
  go_loopw [4, 11] (WRel ls n w) (fun _ i _ => n - (intOf i).toNat)
  case atStart => exact ⟨0, by omega, rfl, fun p hp => by simp at hp, HNEW.out, (Below.refl _ _).alloc (Nat.le_refl _) _⟩
  case round =>
    obtain ⟨k, hk, rfl, ok, own, bel⟩ := hrel
    have OK := Lib.hid ok
    have OW := Lib.hid own
    have BE := Lib.hid bel
    clear ok own bel
    obtain ⟨Ab, cb, rfl, hbb, hcb, hcb2⟩ := OW.out.form
    have HBB := Lib.hid hbb
    have hfl := Fr.flat_take_bd ls k (by rw [HN.out]; exact hn60) HT.out
    clear hbb
    by_cases hlt : k < n
    · have hkl : k < ls.length := by rw [HN.out]; exact hlt
      have hl : ls[k]? = some ls[k] := List.getElem?_eq_getElem hkl
      have hne : ls ≠ [] := fun e => by rw [e] at hkl; simp at hkl
      obtain ⟨b, off, rfl, hb, hat⟩ := (H1.out.keep fun q hq => BE.out.block q (by omega)) hne
      obtain ⟨v, x1, A2, c2, rfl, h2, h3, h4, h5⟩ := hat k _ hl
      have HS := Lib.hid (Fr.flat_step hl)
      have HO := Lib.hid (Fr.ok_step hl OK.out)
      have HP := Lib.hid (h5.mono (Nat.le_trans hB BE.out.size))
      have HM : Hid (ls[k] ∈ ls) := Lib.hid (List.mem_of_getElem? hl)
      clear hat hl hne h4 h5
      generalize ls[k] = l at *
      clear hkl
      generalize hq : Fr.flat (ls.take k) = fl at *
      clear hq
      by_cases hbig : 4096 < l.length
      · have HBIG := Lib.hid hbig
        obtain ⟨q, hq⟩ : ∃ q, q = l.length := ⟨_, rfl⟩
        obtain ⟨m, hm⟩ : ∃ m, m = fl.length := ⟨_, rfl⟩
        rw [← hq] at hbig h2 x1
        rw [← hm] at *
        clear hq hm
        go_wp2_with fail
        refine (put_no Ab A2 m cb q c2 wr hbig (by omega)).mono ?_
        rintro e w1 ⟨rfl, rfl⟩
        go_wp2_with fail
        go_ret2
        exact ⟨BE.out, .inr ⟨fun h => by have := h _ HM.out; have := HBIG.out; omega, rfl⟩⟩
      · have hp := put_any fl l Ab A2 fl.length cb l.length c2 wr HBB.out rfl (by omega) hcb hcb2 HP.out rfl (by omega) h2 h3
        have HO' := Lib.hid (HO.out (by omega))
        have HF : Hid ((fl ++ Fr.rcd l).length ≤ 140737488355328) := Lib.hid (by rw [List.length_append, Fr.rcd_length]; omega)
        generalize l.length = q at *
        generalize fl.length = m at *
        go_wp2_with fail
        refine hp.mono ?_
        rintro e w1 ⟨rfl, row, bel1⟩
        have O1 := Lib.hid (row.own (base := w.heap.size) BE.out.size HF.out)
        have B1 := Lib.hid (BE.out.trans (bel1.mono BE.out.size))
        clear row bel1 hp
        generalize (fl ++ Fr.rcd l).length = z at *
        rw [← HS.out] at O1
        go_wp2_with fail
        go_roundw
        case rel => exact ⟨k + 1, by omega, by go_num, HO'.out, O1.out, B1.out⟩
        case measure => simp [intOf]; omega
    · obtain rfl : k = n := by omega
      have e : ls.take k = ls := List.take_of_length_le (by rw [HN.out]; omega)
      rw [e] at OK OW HBB hcb hfl ⊢
      clear e
      obtain ⟨m, hm⟩ : ∃ m, m = (Fr.flat ls).length := ⟨_, rfl⟩
      rw [← hm] at OW hcb hfl ⊢
      have HM : Hid (m = (Fr.flat ls).length) := Lib.hid hm
      clear hm
      go_wp2_with fail
      go_ret2
      exact ⟨BE.out, .inl ⟨OK.out, Ab, cb, by rw [← HM.out]; rfl, by rw [← HM.out]; exact OW.out⟩⟩
end Go.Proofs.Ytkhhmpcpcdadaaa
