import Derived.Test.YtjcikhacekmcfaaGreatDoorYa
/- The laws' own helpers: place, own, large, Same. -/
namespace Go.Proofs.YtjcikhacekmcfaaGreatDoor
open Go.RowKit
open PlainDisk (File Disk)
open PWal (St Ent Chg)
set_option linter.unusedVariables false
set_option maxRecDepth 100000
def placeP (n last : Int) : Int := if 0 < n ∨ n < -1099511627776 then n else last + 1 + n
theorem placeP_in {n last : Int} (hn : Wr.InR n) (h0 : 0 ≤ last) (h1 : last ≤ 4611686018437387904) : Wr.InR (placeP n last) := by
  obtain ⟨a, b⟩ := hn
  unfold placeP
  split
  · exact ⟨a, b⟩
  · exact ⟨by omega, by omega⟩
theorem place_any (n last : Int) (hn : Wr.InR n) (h0 : 0 ≤ last) (h1 : last ≤ 4611686018437387904) (w : World) : Calls Tryz.prog 29 #[.int .i64 n, .int .i64 last] w fun e w' => e = .returned (.int .i64 (placeP n last)) ∧ w = w' := by
  obtain ⟨a, b⟩ := hn
  unfold placeP
  by_cases q : 0 < n
  · rw [if_pos (.inl q)]
    go_enter Tryz.func29, Tryz.ntmps29
    go_wp2_with fail
    go_ret
    exact ⟨rfl, rfl⟩
  · by_cases q2 : n < -1099511627776
    · rw [if_pos (.inr q2)]
      go_enter Tryz.func29, Tryz.ntmps29
      go_wp2_with fail
      go_ret
      exact ⟨rfl, rfl⟩
    · rw [if_neg (by rintro (x | x); exact q x; exact q2 x)]
      have w1 : IntKind.i64.wrap (last + 1) = last + 1 := IntWalk.i64_in _ (by omega)
      have w2 : IntKind.i64.wrap (last + 1 + n) = last + 1 + n := IntWalk.i64_in _ (by omega)
      go_enter Tryz.func29, Tryz.ntmps29
      go_wp2_with fail
      go_ret
      exact ⟨rfl, rfl⟩
theorem own_any (s : St) (A : Option Addr) (n c : Nat) (w : World) : Calls Tryz.prog 23 #[stV s (.slice A n c)] w fun e w' => e = .returned (stV s (.slice A n c)) ∧ Below w.heap.size w w' := by
  unfold stV
  generalize s.term = st at *
  generalize s.vote = sv at *
  generalize s.sidx = si at *
  generalize s.sterm = ss at *
  generalize str s.sdata = sd at *
  go_enter Tryz.func23, Tryz.ntmps23
  go_wp2_with fail
  refine bodyPost_ret (v := .agg #[.int .i64 st, .int .i64 sv, .int .i64 si, .int .i64 ss, .string sd, .slice A n c]) (by simp [results, Tryz.results23, go_sem]) rfl ⟨rfl, ?_⟩
  exact (below_new w _).alloc (by simp) _
/-- an act of a law -/
structure WAct where
  kind : Int
  term : Int
  n : Int
  frm : Int
  e : List Ent
  si : Int
  st : Int
  sd : List UInt8
def actV (x : WAct) (ve vl : Value) : Value := .agg #[.int .i64 x.kind, .int .i64 x.term, .int .i64 x.n, .int .i64 x.frm, ve, .int .i64 x.si, .int .i64 x.st, .string (str x.sd), vl]
def actC (x : WAct) (ve vl : Value) : Array Value := #[.int .i64 x.kind, .int .i64 x.term, .int .i64 x.n, .int .i64 x.frm, ve, .int .i64 x.si, .int .i64 x.st, .string (str x.sd), vl]
def LargeP (x : WAct) (w : World) (e : Ending) (w' : World) : Prop := ∃ b : Bool, e = .returned (.bool b) ∧ Below w.heap.size w w' ∧ (b = false → x.e.length ≤ 201 ∧ (∀ y ∈ x.e, y.data.length ≤ 131072) ∧ x.sd.length ≤ 131072)
theorem large_yes {x : WAct} {w w' : World} (h : Below w.heap.size w w') : LargeP x w (.returned (.bool true)) w' := ⟨true, rfl, h, fun e => by cases e⟩
theorem large_no {x : WAct} {w w' : World} (h : Below w.heap.size w w') (h1 : x.e.length ≤ 201) (h2 : ∀ y ∈ x.e, y.data.length ≤ 131072) (h3 : x.sd.length ≤ 131072) : LargeP x w (.returned (.bool false)) w' := ⟨false, rfl, h, fun _ => ⟨h1, h2, h3⟩⟩
set_option maxHeartbeats 4000000 in
theorem large_any (x : WAct) (A : Option Addr) (c : Nat) (vl : Value) (w : World) (hl : EntAt w A c x.e) (hd : ∀ y ∈ x.e, y.data.length ≤ 281474976710656) (hs : x.sd.length ≤ 281474976710656) : Calls Tryz.prog 14 #[actV x (.slice A x.e.length c) vl] w (LargeP x w) := by
  have HE := Lib.hid hl
  have HD := Lib.hid hd
  have hlc := hl.1
  have hc63 := hl.2.1
  obtain ⟨n, hn⟩ : ∃ n, n = x.e.length := ⟨_, rfl⟩
  have HN := Lib.hid hn
  rw [← hn] at hlc ⊢
  unfold actV
  obtain ⟨k, t, nn, fr, l, si, st, sd⟩ := x
  simp only at hn HE HD HN hs ⊢
  have hn63 : (n : Int) ≤ 9223372036854775807 := by omega
  have hsz : (str sd).size = sd.length := by rw [str_size]
  obtain ⟨z, hz⟩ : ∃ z, min (sd.length : Int) 1048576 = z := ⟨_, rfl⟩
  have hz0 : 0 ≤ z := by omega
  have hz1 : z ≤ 1048576 := by omega
  have HZ : Hid (z ≤ 131072 → sd.length ≤ 131072) := Lib.hid fun q => by omega
  clear hl hd hn
  obtain ⟨W, hW⟩ : ∃ W, w.alloc (.cells #[.int .i64 k, .int .i64 t, .int .i64 nn, .int .i64 fr, .slice A n c, .int .i64 si, .int .i64 st, .string (str sd), vl] 40) = W := ⟨_, rfl⟩
  have HW := Lib.hid hW
  have hbW : Below w.heap.size w W := hW ▸ below_new w _
  have hx0 : W.heap[w.heap.size]? = some (.cells #[.int .i64 k, .int .i64 t, .int .i64 nn, .int .i64 fr, .slice A n c, .int .i64 si, .int .i64 st, .string (str sd), vl] 40 (0, 0)) := by rw [← hW]; exact heap_alloc_new w _
  have p4 : W.cell? ⟨w.heap.size, 4, none⟩ = some (.slice A n c) := by rw [Lib.cell_of_heap hx0]; rfl
  have p7 : W.cell? ⟨w.heap.size, 7, none⟩ = some (.string (str sd)) := by rw [Lib.cell_of_heap hx0]; rfl
  have HB := Lib.hid hbW
  have HE2 := Lib.hid (HE.out.keep hbW)
  clear hbW hW hx0
  go_enter Tryz.func14, Tryz.ntmps14
  go_wp2_with fail
  go_loopw [3, 13] (fun tV jV wr => ∃ (j : Nat) (m : Int), tV = .int .i64 m ∧ jV = .int .i64 (j : Nat) ∧ j ≤ n ∧ j ≤ 201 ∧ 0 ≤ m ∧ m ≤ 1048576 ∧ Hid (m ≤ 131072 → sd.length ≤ 131072) ∧ Hid (m ≤ 131072 → ∀ y ∈ l.take j, y.data.length ≤ 131072) ∧ wr = W) (fun _ jV _ => n - (numOf jV).toNat)
  case atStart =>
    refine ⟨0, z, ?_, rfl, by omega, by omega, hz0, hz1, HZ, Lib.hid (fun _ y hy => by simp at hy), HW.out⟩
    first | rfl | simp
  case round =>
    obtain ⟨j, m, rfl, rfl, hj, hj2, hm0, hm1, hms, hmt, rfl⟩ := hrel
    by_cases hjn : j < n
    · have hjn2 : (j : Int) < (n : Int) := by omega
      obtain ⟨y, hy⟩ : ∃ y, l[j]? = some y := ⟨_, List.getElem?_eq_getElem (by rw [← HN.out]; exact hjn)⟩
      have hym := List.mem_of_getElem? hy
      have hyd := HD.out y hym
      obtain ⟨g, off, rfl, y0, y1⟩ := HE2.out.one hy
      have htk : l.take (j + 1) = l.take j ++ [y] := by rw [List.take_add_one, hy]; rfl
      have hysz : (str y.data).size = y.data.length := by rw [str_size]
      obtain ⟨u, hu⟩ : ∃ u, min (y.data.length : Int) 1048576 = u := ⟨_, rfl⟩
      have hu0 : 0 ≤ u := by omega
      have hu1 : u ≤ 1048576 := by omega
      have HU : Hid (u ≤ 131072 → y.data.length ≤ 131072) := Lib.hid fun q => by omega
      have hw : IntKind.i64.wrap (m + u) = m + u := IntWalk.i64_in _ (by omega)
      have HT : Hid (m + u ≤ 131072 → ∀ z ∈ l.take (j + 1), z.data.length ≤ 131072) := Lib.hid fun q v hv => by
        rw [htk] at hv
        rcases List.mem_append.1 hv with q2 | q2
        · exact hmt.out (by omega) v q2
        · rw [List.mem_singleton.1 q2]; exact HU.out (by omega)
      have HS : Hid (m + u ≤ 131072 → sd.length ≤ 131072) := Lib.hid fun q => hms.out (by omega)
      clear htk hym hy hyd HU
      by_cases q1 : 131072 < m + u
      · go_wp2_with fail
        go_ret
        exact large_yes HB.out
      · by_cases q2 : (200 : Int) < (j : Int)
        · go_wp2_with fail
          go_ret
          exact large_yes HB.out
        · go_wp2_with fail
          go_roundw
          case rel => exact ⟨j + 1, m + u, rfl, by go_num, by omega, by omega, by omega, by omega, HS, HT, trivial⟩
          case measure => simp [numOf]; omega
    · have hjn2 : ¬ ((j : Int) < (n : Int)) := by omega
      obtain rfl : j = n := by omega
      have hta : l.take j = l := by rw [HN.out]; exact List.take_length
      rw [hta] at hmt
      by_cases q : (131072 : Int) < m
      · go_wp2_with fail
        go_ret
        exact large_yes HB.out
      · go_wp2_with fail
        go_ret
        exact large_no HB.out (by show l.length ≤ 201; rw [← HN.out]; exact hj2) (hmt.out (by omega)) (hms.out (by omega))
end Go.Proofs.YtjcikhacekmcfaaGreatDoor
