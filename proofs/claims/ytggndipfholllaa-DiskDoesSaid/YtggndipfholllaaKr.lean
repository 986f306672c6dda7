import Derived.Test.YtggndipfholllaaKq
import Derived.Test.YtggndipfholllaaLrow
import Derived.Deep.CutRange
import Derived.Deep.DeepCutAuto
namespace Go.Proofs.Ytggndipfholllaa
open Go.RowKit
open PlainDisk (File Disk Left)
set_option linter.unusedVariables false

/-! ### plain: what a crash leaves, byte by byte -/
def midL (x : PlainDisk.Left) (f : File) (k : Nat) : List UInt8 :=
  f.bytes.take f.sure ++ ((f.bytes.drop f.sure).take (min k x.keep.toNat) ++ if x.zero = true then List.replicate (k - x.keep.toNat) 0 else [])
theorem midL_start (x : PlainDisk.Left) (f : File) : midL x f 0 = f.bytes.take f.sure := by
  unfold midL
  rw [Nat.zero_min, List.take_zero, Nat.zero_sub, List.nil_append]
  split <;> simp
theorem midL_end (x : PlainDisk.Left) (f : File) : midL x f (f.bytes.drop f.sure).length = PlainDisk.left x f := by
  unfold midL PlainDisk.left
  congr 2
  by_cases h : x.keep.toNat ≤ (f.bytes.drop f.sure).length
  · rw [Nat.min_eq_right h]
  · rw [Nat.min_eq_left (by omega), List.take_of_length_le (Nat.le_refl _), List.take_of_length_le (by omega)]
theorem midL_keep {x : PlainDisk.Left} {f : File} {k : Nat} {u : UInt8} (h : k < x.keep.toNat) (hu : (f.bytes.drop f.sure)[k]? = some u) : midL x f (k + 1) = midL x f k ++ [u] := by
  unfold midL
  rw [Nat.min_eq_left (by omega), Nat.min_eq_left (by omega), show k + 1 - x.keep.toNat = 0 by omega, show k - x.keep.toNat = 0 by omega, List.take_add_one, hu]
  split <;> simp
theorem midL_nul {x : PlainDisk.Left} {f : File} {k : Nat} (h : x.keep.toNat ≤ k) (hz : x.zero = true) : midL x f (k + 1) = midL x f k ++ [0] := by
  unfold midL
  rw [Nat.min_eq_right (by omega), Nat.min_eq_right h, if_pos hz, if_pos hz, show k + 1 - x.keep.toNat = (k - x.keep.toNat) + 1 by omega, List.replicate_succ']
  simp
theorem midL_lost {x : PlainDisk.Left} {f : File} {k : Nat} (h : x.keep.toNat ≤ k) (hz : x.zero = false) : midL x f (k + 1) = midL x f k := by
  unfold midL
  rw [Nat.min_eq_right (by omega), Nat.min_eq_right h, if_neg (by rw [hz]; simp), if_neg (by rw [hz]; simp)]
theorem midL_len (x : PlainDisk.Left) (f : File) (h : f.sure ≤ f.bytes.length) {k : Nat} (hk : k ≤ (f.bytes.drop f.sure).length) : (midL x f k).length ≤ f.bytes.length := by
  unfold midL
  rw [List.length_drop] at hk
  rw [List.length_append, List.length_append, List.length_take, List.length_take, List.length_drop]
  split
  · rw [List.length_replicate]; omega
  · rw [List.length_nil]; omega
theorem crashL_len (fs : List File) (l : List PlainDisk.Left) : (PlainDisk.crashL fs l).length = fs.length := by
  have := congrArg List.length (PlainDisk.crashL_names fs l)
  simpa using this
theorem crashI_len (i : Nat) (fs : List File) (l : List PlainDisk.Left) : (crashI i fs l).length = fs.length := by
  have := congrArg List.length (crashI_names i fs l)
  simpa using this
theorem crashI_get {fs : List File} {i : Nat} {f : File} (l : List PlainDisk.Left) (hf : fs[i]? = some f) : (crashI i fs l)[i]? = some f := by
  have hi := (List.getElem?_eq_some_iff.1 hf).1
  unfold crashI
  have hl : (PlainDisk.crashL (fs.take i) l).length = i := by rw [crashL_len, List.length_take]; omega
  rw [List.getElem?_append_right (by omega), hl, Nat.sub_self, List.getElem?_drop]
  exact hf

/-! ### slices of bytes that lie somewhere -/
theorem slice_hi (A : Option Addr) (n c k : Nat) (h1 : k ≤ c) (W : World) :
    (Instr.slice 28 (.slice A n c) none (some (.int .i64 (k : Nat))) none).run Try.prog W = .ok (.slice A k c) W := by
  have hk : (k : Int) ≤ (c : Int) := by omega
  have h0 : (0 : Int) ≤ (k : Int) := by omega
  go_simp
theorem slice_lo {w : World} {A : Option Addr} {c k : Nat} {bs : List UInt8} (h : Lies w A c bs) (h1 : k ≤ bs.length) (h2 : bs.length ≤ c) :
    ∃ A', (∀ W : World, (Instr.slice 28 (.slice A bs.length c) (some (.int .i64 (k : Nat))) none none).run Try.prog W = .ok (.slice A' (bs.length - k) (c - k)) W) ∧ Lies w A' (c - k) (bs.drop k) := by
  have hk : (k : Int) ≤ (bs.length : Int) := by omega
  have h0 : (0 : Int) ≤ (k : Int) := by omega
  refine ⟨if c = k then A else A.map (·.add (k * 1)), fun W => ?_, ?_, ?_⟩
  · go_simp
  · intro hA
    split at hA
    · omega
    · cases A with
      | none => have := h.1 rfl; omega
      | some ad => cases hA
  · intro hne
    have hlt : k < bs.length := by
      by_cases q : k < bs.length
      · exact q
      · exact absurd (List.drop_eq_nil_of_le (by omega)) hne
    obtain ⟨b, off, e1, e2⟩ := h.2 (fun e => by rw [e] at hlt; simp at hlt)
    rw [if_neg (by omega), e1]
    refine ⟨b, off + k, ?_, fun j u hu => ?_⟩
    · simp [Addr.add]
    · rw [List.getElem?_drop] at hu
      have := e2 (k + j) u hu
      rw [← Nat.add_assoc] at this
      exact this
theorem lies_one (w : World) (y : UInt8) : Lies (w.alloc (.cells #[.int .u8 (y.toNat : Int)] 5)) (some ⟨w.heap.size, 0, none⟩) 1 [y] := by
  refine ⟨fun q => (by cases q), fun _ => ⟨w.heap.size, 0, rfl, fun j u hu => ?_⟩⟩
  rw [Lib.cell_of_heap (heap_alloc_new w _)]
  cases j with
  | zero =>
    have hu : y = u := by simpa using hu
    subst hu
    rfl
  | succ j => simp at hu
theorem OwnB.le {w : World} {base : Nat} {v : Value} {l : List UInt8} (h : OwnB w base v l) : ∃ A c, v = .slice A l.length c := by
  obtain ⟨A, c, e, _⟩ := h.slice
  exact ⟨A, c, e⟩

set_option maxHeartbeats 8000000 in
set_option maxRecDepth 100000 in
theorem refCrash_any (b : Nat) (l : List PlainDisk.Left) (vl : Value) (F : Nat → Prop) (D : Disk) (S : Nat → Prop) (w : World) (hd : RefIs w b D S) (hF : Fine D) (hl : LAt w vl l F) (hFS : ∀ k, F k → k < w.heap.size ∧ ¬ S k) :
    Calls Try.prog 39 #[.pointer (some ⟨b, 0, none⟩), vl] w fun e w' => e = .returned (.tuple #[]) ∧ RefTo w w' b (PlainDisk.crash D l) S := by
  have HD := Lib.hid hd
  have HSRT := Lib.hid hF.inv.sorted
  have hmany := hF.inv.many
  have HFN := Lib.hid hF
  obtain ⟨A, c, rfl, l1, l2, l3, l4⟩ := id hl
  have HL := Lib.hid hl
  clear hd hl l3 l4
  go_enter Try.func39, Try.ntmps39
  go_wp2_with fail
  go_loopw [4] (fun iV wr => ∃ i : Nat, iV = .int .i64 (i : Nat) ∧ i ≤ D.fs.length ∧ RefTo w wr b { D with fs := crashI i D.fs l } S) (fun iV _ => D.fs.length - (numOf iV).toNat)
  case atStart => exact ⟨0, rfl, by omega, by rw [crashI_zero]; exact HD.out.stays⟩
  case round =>
    obtain ⟨i, rfl, hi, hto⟩ := hrel
    have HTO := Lib.hid hto
    obtain ⟨S1, ⟨Lv, ps, hb, hS1, hfs, hr⟩, hup, hfr⟩ := hto
    have hfs : crashI i D.fs l = ps.map (·.1) := hfs
    have hpl : ps.length = D.fs.length := by
      have := congrArg List.length hfs
      rw [crashI_len, List.length_map] at this
      exact this.symm
    by_cases hlt : i < D.fs.length
    · obtain ⟨f, hf⟩ : ∃ f, D.fs[i]? = some f := ⟨_, List.getElem?_eq_getElem hlt⟩
      obtain ⟨p, h2, hpf⟩ : ∃ p, ps[i]? = some p ∧ p.1 = f := by
        have q := crashI_get l hf
        rw [hfs, List.getElem?_map] at q
        cases hq : ps[i]? with
        | none => rw [hq] at q; cases q
        | some p => rw [hq] at q; exact ⟨p, rfl, by simpa using q⟩
      subst hpf
      have hil : i < ps.length := by omega
      have hsu : p.1.sure ≤ p.1.bytes.length := HFN.out.inv.sure p.1 (List.mem_of_getElem? hf)
      have hul : p.1.bytes.length ≤ 1048576 := by
        have q1 := PlainDisk.used_drop HFN.out.inv.sorted (PlainDisk.find_of_mem HFN.out.inv.sorted (List.mem_of_getElem? hf))
        have q2 := HFN.out.inv.room
        have q3 := HFN.out.room
        omega
      obtain ⟨Af, cap, rfl, hc, hm2, hrow⟩ := hr.form
      obtain ⟨g, cs, rfl, hSg, hgb, hsz, hat⟩ := hrow (by omega)
      obtain ⟨d0, d1, d2⟩ := hat i p h2
      obtain ⟨A2, c2, q2, k1, k2, k3⟩ := (hr.bytes p (List.mem_of_getElem? h2)).lies
      rw [q2] at d1
      have c0 : wr.cell? ⟨b, 0, none⟩ = some (.slice (some ⟨g, 0, none⟩) ps.length cap) := by rw [Lib.cell_of_heap hb]; rfl
      have hwr : LAt wr (.slice A l.length c) l F := HL.out.keep fun k hk => hfr.block k (hFS k hk).1 (hFS k hk).2
      have hx : ∃ x : PlainDisk.Left, x = l[i]?.getD dark ∧ -9223372036854775808 ≤ x.keep ∧ x.keep ≤ 9223372036854775807 ∧ ((l.length ≤ i ∧ x = dark) ∨ (i < l.length ∧ ∃ k off, A = some ⟨k, off, none⟩ ∧ wr.cell? ⟨k, off + i * 2, none⟩ = some (.int .i64 x.keep) ∧ wr.cell? ⟨k, off + i * 2 + 1, none⟩ = some (.bool x.zero))) := by
        refine ⟨_, rfl, ?_⟩
        obtain ⟨A', c', e1, _, _, e2, e3⟩ := hwr
        have e1 : A = A' := by injection e1
        subst e1
        by_cases hil : i < l.length
        · rw [List.getElem?_eq_getElem hil]
          show _ ≤ l[i].keep ∧ _
          obtain ⟨k, off, q1, _, q3⟩ := e3 (fun e => by rw [e] at hil; simp at hil)
          obtain ⟨r1, r2⟩ := q3 i l[i] (List.getElem?_eq_getElem hil)
          exact ⟨(e2 _ (List.getElem_mem hil)).1, (e2 _ (List.getElem_mem hil)).2, .inr ⟨hil, k, off, q1, r1, r2⟩⟩
        · rw [List.getElem?_eq_none (by omega)]
          exact ⟨by decide, by decide, .inl ⟨by omega, rfl⟩⟩
      obtain ⟨x, hxe, x0, x1, hxc⟩ := hx
      have HXE := Lib.hid hxe
      have HB := Lib.hid hb
      have HR := Lib.hid hr
      have HH2 := Lib.hid h2
      have HF1 := Lib.hid hf
      have HFS := Lib.hid hfs
      have HK3 := Lib.hid k3
      have hblt : b < wr.heap.size := (Array.getElem?_eq_some_iff.1 hb).1
      have hglt : g < wr.heap.size := (Array.getElem?_eq_some_iff.1 hgb).1
      have HPL := Lib.hid hpl
      have HUP := Lib.hid hup
      have HFR := Lib.hid hfr
      have HS1 := Lib.hid hS1
      have hpi : (i : Int) < (ps.length : Int) := by omega
      clear hxe hb hr h2 hf hfs k3 hwr hgb hsz hat hrow hup hfr d0 hSg hS1 q2 hpl
      go_upto_if 22 with fail
      go_cut [] (fun wx => wx = wr.alloc (.cells #[.int .i64 x.keep, .bool x.zero] 68))
      case first =>
        rcases hxc with ⟨h1, rfl⟩ | ⟨h1, k, off, rfl, g1, g2⟩
        · have hnl : ¬ i < l.length := by omega
          go_wp2_with fail
          go_meet
          rfl
        · have hkl : k < wr.heap.size := World.block_lt_of_cell? wr _ g1
          go_wp2_with fail
          go_meet
          rfl
      case rest =>
      obtain rfl := hcut
      obtain ⟨W0, hW0⟩ : ∃ W0, W0 = wr.alloc (.cells #[.int .i64 x.keep, .bool x.zero] 68) := ⟨_, rfl⟩
      have hzw : W0.heap.size = wr.heap.size + 1 := by rw [hW0]; simp
      have hbl : Below wr.heap.size wr W0 := by rw [hW0]; exact below_alloc _ _
      have hbx : W0.heap[wr.heap.size]? = some (.cells #[.int .i64 x.keep, .bool x.zero] 68 (0, 0)) := by rw [hW0]; exact heap_alloc_new wr _
      have c0w : W0.cell? ⟨b, 0, none⟩ = some (.slice (some ⟨g, 0, none⟩) ps.length cap) := (hbl.cell hblt).trans c0
      have d1w : W0.cell? ⟨g, i * 3 + 1, none⟩ = some (.slice A2 p.1.bytes.length c2) := (hbl.cell hglt).trans d1
      have d2w : W0.cell? ⟨g, i * 3 + 2, none⟩ = some (.int .i64 (p.1.sure : Nat)) := (hbl.cell hglt).trans d2
      have hbw : b < W0.heap.size := by omega
      have hgw : g < W0.heap.size := by omega
      have hshi := slice_hi A2 p.1.bytes.length c2 p.1.sure (by omega)
      obtain ⟨A7, hslo, hl7⟩ := slice_lo HK3.out hsu k1
      have HL7 := Lib.hid hl7
      have HBL := Lib.hid hbl
      have HBX := Lib.hid hbx
      have HZ := Lib.hid hzw
      have L1 : Hid (Lies (W0.alloc (.cells #[] 5)).drew A2 c2 (p.1.bytes.take p.1.sure)) := Lib.hid ((HK3.out.take _).keep fun k hk => (Below.heap_alloc W0 _ k (by omega)).trans (HBL.out.block k hk))
      have O1 : Hid (OwnB (W0.alloc (.cells #[] 5)).drew W0.heap.size (.slice (some ⟨W0.heap.size, 0, none⟩) 0 0) []) := Lib.hid (OwnB.new W0)
      have B1 : Hid (Below W0.heap.size W0 (W0.alloc (.cells #[] 5)).drew) := Lib.hid ((Below.refl _ W0).alloc (Nat.le_refl _) _).drew
      have HTK : Hid (p.1.sure = (p.1.bytes.take p.1.sure).length) := Lib.hid (by rw [List.length_take]; omega)
      have Z3 : Hid ((p.1.bytes.take p.1.sure).length ≤ c2) := Lib.hid (by rw [List.length_take]; omega)
      have Z1 : Hid (([] : List UInt8).length + (p.1.bytes.take p.1.sure).length ≤ 140737488355328) := Lib.hid (by rw [List.length_take, List.length_nil]; omega)
      rw [← hW0]
      have HW0 := Lib.hid hW0
      clear hW0 hbl hbx hzw hl7 c0 d1 d2 hxc
      go_upto_region 6 with fail
      go_cut [6] (fun s6 wx => ∃ A3 n3 c3, s6 = .slice A3 n3 c3 ∧ OwnB wx W0.heap.size (.slice A3 n3 c3) (p.1.bytes.take p.1.sure) ∧ Below W0.heap.size W0 wx)
      case first =>
        go_region_law (first
          | ((refine step_appX (by rfl) (.tmp 27) (.tmp 44) (by rfl) W0.heap.size (.slice (some ⟨W0.heap.size, 0, none⟩) 0 0) [] (by rfl) O1.out A2 p.1.sure c2 (p.1.bytes.take p.1.sure) (by rfl) L1.out HTK.out Z3.out Z1.out B1.out.size ?_); intro v3 w3 hown3 hg3; (obtain ⟨A3, n3, cap3, rfl⟩ := hown3.form); (have hb3 : Below W0.heap.size W0 w3 := B1.out.grown hg3 B1.out.size (fun k hk => (O1.out.lt k hk).1)); (have O3 := Lib.hid hown3); (have B3 := Lib.hid hb3); (clear hown3 hb3 hg3)))
        all_goals
          go_wp2_with fail
          go_meet
          exact ⟨_, _, _, rfl, O3.out, B3.out⟩
      case rest =>
      obtain ⟨A3, n3, c3, rfl, ho3, hb3⟩ := hcut
      have HO3 := Lib.hid ho3
      have HB3 := Lib.hid hb3
      have c03 : wc.cell? ⟨b, 0, none⟩ = some (.slice (some ⟨g, 0, none⟩) ps.length cap) := (hb3.cell hbw).trans c0w
      have d13 : wc.cell? ⟨g, i * 3 + 1, none⟩ = some (.slice A2 p.1.bytes.length c2) := (hb3.cell hgw).trans d1w
      have d23 : wc.cell? ⟨g, i * 3 + 2, none⟩ = some (.int .i64 (p.1.sure : Nat)) := (hb3.cell hgw).trans d2w
      clear ho3 hb3 c0w d1w d2w L1 O1 B1 HTK Z1 Z3 hshi
      go_upto_region 7 with fail
      go_cut [7] (fun s7 wx => s7 = .slice A7 (p.1.bytes.length - p.1.sure) (c2 - p.1.sure) ∧ Below W0.heap.size W0 wx ∧ OwnB wx W0.heap.size (.slice A3 n3 c3) (p.1.bytes.take p.1.sure))
      case first =>
        go_quiet (fail)
        go_wp2_with fail
        go_meet
        exact ⟨rfl, below_drewN HB3.out nq, HO3.out⟩
      case rest =>
      obtain ⟨rfl, hb4, ho4⟩ := hcut
      have HO4 := Lib.hid ho4
      have HB4 := Lib.hid hb4
      have hrl : (p.1.bytes.drop p.1.sure).length = p.1.bytes.length - p.1.sure := List.length_drop
      generalize hR : p.1.bytes.length - p.1.sure = nR at *
      generalize hC : c2 - p.1.sure = cR at *
      have hRm : nR ≤ 1048576 := by omega
      have HRL := Lib.hid hrl
      have HBY : Hid (wr.heap.size + 1 ≤ W0.heap.size) := Lib.hid (by have := HZ.out; omega)
      clear ho4 hb4 hrl hR hC c03 d13 d23 HO3 HB3 hslo
      obtain ⟨w0, hw0⟩ : ∃ q, q = wr := ⟨_, rfl⟩
      subst hw0
      go_wp2_with fail
      go_loopw [6, 8] (fun s6 s8 wq => ∃ (k : Nat) (v : Value), v = s6 ∧ s8 = .int .i64 (k : Nat) ∧ k ≤ nR ∧ OwnB wq W0.heap.size v (midL x p.1 k) ∧ Below W0.heap.size W0 wq) (fun _ s8 _ => nR - (numOf s8).toNat)
      case atStart => exact ⟨0, _, rfl, rfl, Nat.zero_le _, by rw [midL_start]; exact HO4.out, HB4.out⟩
      case round =>
        obtain ⟨k, v, rfl, rfl, hk, hok, hbk⟩ := hrel
        have HOK := Lib.hid hok
        have HBK := Lib.hid hbk
        clear hok hbk HO4 HB4
        have hb5 := HBK.out
        have hxa : wr.cell? ⟨w0.heap.size, 0, none⟩ = some (.int .i64 x.keep) := by rw [Lib.cell_of_heap ((hb5.block _ (by have := HZ.out; omega)).trans HBX.out)]; rfl
        have hxb : wr.cell? ⟨w0.heap.size, 1, none⟩ = some (.bool x.zero) := by rw [Lib.cell_of_heap ((hb5.block _ (by have := HZ.out; omega)).trans HBX.out)]; rfl
        have hbn : Below w0.heap.size w0 wr := HBL.out.trans (hb5.mono (by have := HZ.out; omega))
        have HBN := Lib.hid hbn
        obtain ⟨Av, cv, hve, hvl, hvc, _⟩ := HOK.out.slice
        have hml : (midL x p.1 k).length ≤ 1048576 := Nat.le_trans (midL_len x p.1 hsu (by have := HRL.out; omega)) hul
        have HML := Lib.hid hml
        clear hb5 hbn hvl hvc hml hve
        by_cases hkl : k < nR
        · obtain ⟨u, hu⟩ : ∃ u, (p.1.bytes.drop p.1.sure)[k]? = some u := ⟨_, List.getElem?_eq_getElem (by have := HRL.out; omega)⟩
          by_cases hkk : (k : Int) < x.keep
          · have HMK := Lib.hid (midL_keep (x := x) (by omega) hu)
            obtain ⟨bk, off, e1, e2⟩ := HL7.out.2 (fun e => by rw [e] at hu; simp at hu)
            have hcu : wr.cell? ⟨bk, off + k, none⟩ = some (.int .u8 (u.toNat : Int)) := (HBN.out.cell (World.block_lt_of_cell? w0 _ (e2 k u hu))).trans (e2 k u hu)
            subst e1
            clear e2 hu
            go_wp2_with (at_builtin; (refine wp_appX rfl (.tmp 73) (.tmp 78) rfl W0.heap.size v _ rfl (HOK.out.alloc _) (some ⟨wr.heap.size, 0, none⟩) 1 1 [u] rfl (lies_one wr u) rfl (by simp) ?hl ?hbs ?_))
            case hl => have := HML.out; simp; omega
            case hbs => have := HBK.out.size; simp; omega
            intro v' w2 hown2 hgrow
            have hbw2 : Below W0.heap.size W0 w2 := (HBK.out.alloc HBK.out.size _).grown hgrow (by have := HBK.out.size; simp; omega) (fun k hk => (HOK.out.lt k hk).1)
            have HO2 := Lib.hid hown2
            have HB2 := Lib.hid hbw2
            clear hown2 hgrow hbw2
            go_wp2_with fail
            go_roundw
            case rel => exact ⟨k + 1, v', rfl, rfl, by omega, by rw [HMK.out]; exact HO2.out, HB2.out⟩
            case measure => simp [numOf]; omega
          · have hkk2 : ¬ (k : Int) < x.keep := hkk
            cases hz : x.zero with
            | true =>
              have HMK := Lib.hid (midL_nul (x := x) (f := p.1) (k := k) (by omega) hz)
              rw [hz] at hxb
              clear hz hu
              go_wp2_with (at_builtin; (refine wp_appX rfl (.tmp 82) (.tmp 83) rfl W0.heap.size v _ rfl (HOK.out.alloc _) (some ⟨wr.heap.size, 0, none⟩) 1 1 [0] rfl (lies_one wr 0) rfl (by simp) ?hl ?hbs ?_))
              case hl => have := HML.out; simp; omega
              case hbs => have := HBK.out.size; simp; omega
              intro v' w2 hown2 hgrow
              have hbw2 : Below W0.heap.size W0 w2 := (HBK.out.alloc HBK.out.size _).grown hgrow (by have := HBK.out.size; simp; omega) (fun k hk => (HOK.out.lt k hk).1)
              have HO2 := Lib.hid hown2
              have HB2 := Lib.hid hbw2
              clear hown2 hgrow hbw2
              go_wp2_with fail
              go_roundw
              case rel => exact ⟨k + 1, v', rfl, rfl, by omega, by rw [HMK.out]; exact HO2.out, HB2.out⟩
              case measure => simp [numOf]; omega
            | false =>
              have HMK := Lib.hid (midL_lost (x := x) (f := p.1) (k := k) (by omega) hz)
              rw [hz] at hxb
              clear hz hu
              go_wp2_with fail
              go_roundw
              case rel => exact ⟨k + 1, v, rfl, rfl, by omega, by rw [HMK.out]; exact HOK.out, HBK.out⟩
              case measure => simp [numOf]; omega
        · obtain rfl : nR = k := by omega
          have hmid : midL x p.1 nR = PlainDisk.left x p.1 := by
            have q := midL_end x p.1
            rw [HRL.out] at q
            exact q
          have HOW : Hid (OwnB wr w0.heap.size v (PlainDisk.left x p.1)) := Lib.hid (by rw [← hmid]; exact HOK.out.mono (by have := HBY.out; omega))
          clear hmid HOK
          obtain ⟨A8, c8, rfl⟩ := HOW.out.le
          obtain ⟨a1, a2, a3, a4⟩ := row_set1 (l := PlainDisk.left x p.1) HB.out HR.out HH2.out HBN.out HOW.out
          obtain ⟨cs, hgb⟩ := HR.out.block (g := g) rfl
          have c04 : wr.cell? ⟨b, 0, none⟩ = some (.slice (some ⟨g, 0, none⟩) ps.length cap) := by rw [Lib.cell_of_heap ((HBN.out.block b hblt).trans HB.out)]; rfl
          obtain ⟨Af, cap', e5, _, _, hrow⟩ := HR.out.form
          obtain ⟨g', cs', e6, _, _, _, hat⟩ := hrow (by omega)
          subst e6
          cases e5
          have d14 : wr.cell? ⟨g, i * 3 + 1, none⟩ = some p.2 := (HBN.out.cell hglt).trans (hat i p HH2.out).2.1
          have f14 : wr.frozen? ⟨g, i * 3 + 1, none⟩ = false := (HBN.out.frozen hglt).trans (Lib.frozen_of_heap hgb _)
          have hset : (ps.set i (({ p.1 with bytes := PlainDisk.left x p.1 } : File), .slice A8 (PlainDisk.left x p.1).length c8))[i]? = some (({ p.1 with bytes := PlainDisk.left x p.1 } : File), .slice A8 (PlainDisk.left x p.1).length c8) := List.getElem?_set_self hil
          have HA1 := Lib.hid a1
          have HA2 := Lib.hid a2
          have HA3 := Lib.hid a3
          have HA4 := Lib.hid a4
          have HST := Lib.hid hset
          have hlx : (PlainDisk.left x p.1).length ≤ 1048576 := Nat.le_trans (PlainDisk.left_le x p.1 hsu).1 hul
          clear a1 a2 a3 a4 hset hat hrow hgb hxa hxb
          go_upto_region 16 with fail
          generalize wr.setCell ⟨g, i * 3 + 1, none⟩ (.slice A8 (PlainDisk.left x p.1).length c8) = w4 at *
          have c05 : w4.cell? ⟨b, 0, none⟩ = some (.slice (some ⟨g, 0, none⟩) ps.length cap) := by rw [Lib.cell_of_heap HA1.out]; rfl
          obtain ⟨cs4, hg4⟩ := HA2.out.block (g := g) rfl
          obtain ⟨A4, cap4, e4, _, _, hrow4⟩ := HA2.out.form
          rw [List.length_set] at e4 hrow4
          cases e4
          obtain ⟨g4, cs5, e5, _, _, _, hat4⟩ := hrow4 (by omega)
          cases e5
          have d24 : w4.cell? ⟨g, i * 3 + 2, none⟩ = some (.int .i64 (p.1.sure : Nat)) := (hat4 i _ HST.out).2.2
          have f24 : w4.frozen? ⟨g, i * 3 + 2, none⟩ = false := Lib.frozen_of_heap hg4 _
          obtain ⟨q1, q2, q3, q4⟩ := row_set2 (m := (PlainDisk.left x p.1).length) HA1.out HA2.out HST.out
          have HQ := Lib.hid (show RefTo w (w4.setCell ⟨g, i * 3 + 2, none⟩ (.int .i64 ((PlainDisk.left x p.1).length : Nat))) b { D with fs := crashI (i + 1) D.fs l } S by
            have z1 := HFR.out.size
            have z2 := HBN.out.size
            have z4 := HA4.out
            refine ⟨Up S1 w0 wr, ⟨_, _, q1, Up.old HS1.out, ?_, q2⟩, fun k hk => ?_, (HFR.out.trans HA3.out fun j hj => ?_).trans q3 fun j hj => ?_⟩
            · rw [List.set_set]
              have hsr : PlainDisk.Sorted (ps.map (·.1)) := by rw [← HFS.out]; exact crashI_sorted HSRT.out i l
              have u1 := set_upd hsr HH2.out (PlainDisk.crashF x) (.slice A8 (PlainDisk.left x p.1).length c8)
              have u2 := crashI_step HSRT.out HF1.out l
              rw [← HXE.out, HFS.out, ← u1] at u2
              exact u2.symm
            · rcases hk with hk | ⟨h5, h6⟩
              · rcases HUP.out k hk with q | ⟨h5, h6⟩
                · exact .inl q
                · exact .inr ⟨h5, by rw [q4]; omega⟩
              · exact .inr ⟨by omega, by rw [q4]; omega⟩
            · exact (HUP.out j hj).elim .inl fun q => .inr q.1
            · rcases hj with hj | ⟨h5, h6⟩
              · exact (HUP.out j hj).elim .inl fun q => .inr q.1
              · exact .inr (by omega))
          clear q1 q2 q3 q4 hat4 hrow4 hg4 c04 d14 f14
          go_wp2_with fail
          go_roundw
          case rel => exact ⟨i + 1, rfl, by omega, HQ.out⟩
          case measure => simp [numOf]; omega
    · have hie : i = D.fs.length := by omega
      subst hie
      have hq : PlainDisk.crash D l = { D with fs := ps.map (·.1), gone := false, good := -1 } := by rw [← hfs, crashI_all]; rfl
      have hother : ∀ k, k ≠ b → ((wr.setCell ⟨b, 2, none⟩ (.bool false)).setCell ⟨b, 3, none⟩ (.int .i64 (-1))).heap[k]? = wr.heap[k]? := fun k hk => (Below.heap_setCell _ _ _ k hk).trans (Below.heap_setCell _ _ _ k hk)
      have HE : Hid (RefTo w ((wr.setCell ⟨b, 2, none⟩ (.bool false)).setCell ⟨b, 3, none⟩ (.int .i64 (-1))) b (PlainDisk.crash D l) S) := Lib.hid (by
        rw [hq]
        refine ⟨S1, ⟨Lv, ps, ?_, hS1, rfl, hr.otherBlock fun k hk ⟨cs, t, fz, hc, ht⟩ => hother k ?_⟩, fun k hk => ?_, ?_⟩
        · simp [World.setCell, Array.getElem?_modify, hb]
        · rintro rfl
          rw [hb] at hc
          cases hc
          rcases ht with h | h <;> cases h
        · rcases hup k hk with q | q
          · exact .inl q
          · exact .inr ⟨q.1, by simpa [World.setCell] using q.2⟩
        · have hbS : S b ∨ w.heap.size ≤ b := (hup b hS1).elim .inl fun q => .inr q.1
          exact (hfr.setCell (p := ⟨b, 2, none⟩) hbS _).setCell (p := ⟨b, 3, none⟩) hbS _)
      have c2 : wr.cell? ⟨b, 2, none⟩ = some (.bool D.gone) := by rw [Lib.cell_of_heap hb]; rfl
      have c3 : wr.cell? ⟨b, 3, none⟩ = some (.int .i64 D.good) := by rw [Lib.cell_of_heap hb]; rfl
      have f2 := Lib.frozen_of_heap hb 2
      have f3 := Lib.frozen_of_heap hb 3
      obtain ⟨Af, cap, rfl, hc, hm2, hrow⟩ := hr.form
      have c0 : wr.cell? ⟨b, 0, none⟩ = some (.slice Af ps.length cap) := by rw [Lib.cell_of_heap hb]; rfl
      have hpn : ¬ (D.fs.length : Int) < (ps.length : Int) := by omega
      clear hrow hr hb hfs hq hother hup hfr hpl hS1
      go_wp2_with fail
      go_end0
      exact ⟨rfl, HE.out⟩
end Go.Proofs.Ytggndipfholllaa
