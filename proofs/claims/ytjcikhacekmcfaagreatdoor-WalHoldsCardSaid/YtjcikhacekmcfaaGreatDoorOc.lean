import Derived.Test.YtjcikhacekmcfaaGreatDoorOb
namespace Go.Proofs.YtjcikhacekmcfaaGreatDoor
open Go.RowKit
open PlainDisk (File Disk)
set_option linter.unusedVariables false
set_option maxRecDepth 100000

/-! ### where the next record goes -/
theorem rdB_le {D : Disk} (hF : Fine D) (nm : List UInt8) : (PWal.rdB D nm).length ≤ 1048576 := by
  unfold PWal.rdB
  cases h : PlainDisk.find D.fs nm with
  | none => simp
  | some f => exact (hF.small (PlainDisk.find_mem h)).1
theorem file_agg {w : World} {bw b : Nat} {nv : Value} {nm : List UInt8} (hn : NameIs nv nm) (hc : w.cell? ⟨bw, 0, none⟩ = some (.pointer (some ⟨b, 0, none⟩))) :
    Calls Tryz.prog 68 #[.pointer (some ⟨bw, 0, none⟩), nv] w fun e w' => e = .returned (.agg #[.pointer (some ⟨b, 0, none⟩), nv]) ∧ Below w.heap.size w w' := file_any hn hc
/-- a file's bytes, scanned -/
theorem ownB_bytes {w : World} {base : Nat} {A : Option Addr} {c : Nat} {bs : List UInt8} (h : OwnB w base (.slice A bs.length c) bs) : Fm.BytesAt w w.heap.size A bs ∧ bs.length ≤ c ∧ c ≤ 9223372036854775807 := by
  obtain ⟨A', c', e, h1, h2, h3⟩ := Fm.OwnB.form (w := w) (base := base) (v := .slice A bs.length c) (l := bs) h
  obtain ⟨rfl, rfl⟩ : A = A' ∧ c = c' := by injection e with q1 q2 q3; exact ⟨q1, q3⟩
  exact ⟨h1, h2, h3⟩
def TargetP (D : Disk) (b : Nat) (S : Nat → Prop) (w : World) (e : Ending) (w' : World) : Prop :=
  e = .returned (.tuple #[.int .i64 ((PWal.target D).1 : Nat), .int .i64 (PWal.target D).2.2]) ∧ DkTo w w' b (PWal.target D).2.1 S
theorem target_nil {D : Disk} (h : PWal.segs D = []) : PWal.target D = (1, D, 0) := by unfold PWal.target; rw [h]; rfl
theorem target_last {D : Disk} {s : Nat} (h : (PWal.segs D).getLast? = some s) : PWal.target D = if (Fm.Fr.scan (PWal.rdB D (PWal.segN s))).1.length < 8 then (s, D, 0) else if s = 9999999999 then (0, D, 3) else (s + 1, PWal.settle D (PWal.segN s)) := by unfold PWal.target; rw [h]
set_option maxHeartbeats 2000000 in
theorem target_any {w : World} {bw b : Nat} {D : Disk} {S : Nat → Prop} (h : Ws w bw b D S) : Calls Tryz.prog 117 #[.pointer (some ⟨bw, 0, none⟩)] w (TargetP D b S w) := by
  have hmf : ∀ (fn : Fn) (first cap : Array Value) (w : World), (Instr.makeFunc fn first cap).run Tryz.prog w = .ok (.func fn first cap) w := fun _ _ _ _ => rfl
  have hst := store_fn
  have HS := Lib.hid (segments_any h)
  have HW := Lib.hid h
  have hL64 := segs_many h.dk.fine.inv.many
  have HLT := Lib.hid (fun n (hn : n ∈ PWal.segs D) => segs_lt D hn)
  have HRL := Lib.hid (fun nm => rdB_le h.dk.fine nm)
  clear h
  rcases List.eq_nil_or_concat (PWal.segs D) with hnil | ⟨l0, s, hl⟩
  · have HT := Lib.hid (target_nil hnil)
    have HNL := Lib.hid hnil
    clear hnil hL64
    go_enter Tryz.func117, Tryz.ntmps117
    go_wp2_with fail
    refine HS.out.mono ?_
    rintro e w1 ⟨A, c, rfl, own, b1⟩
    rw [HNL.out]
    have HB := Lib.hid b1
    clear own b1
    go_wp2_with fail
    go_ret2
    exact ⟨by rw [HT.out]; rfl, by rw [HT.out]; exact HW.out.dk.stays HB.out⟩
  · rw [List.concat_eq_append] at hl
    have hgl : (PWal.segs D).getLast? = some s := by rw [hl]; simp
    have HT := Lib.hid (target_last hgl)
    have hs := HLT.out s (by rw [hl]; simp)
    have HHL := Lib.hid hl
    have HNI := Lib.hid (nameIs_seg s hs)
    go_enter Tryz.func117, Tryz.ntmps117
    go_wp2_with fail
    refine HS.out.mono ?_
    rintro e w1 ⟨A, c, rfl, own, b1⟩
    obtain ⟨N, hN⟩ : ∃ N, N = (PWal.segs D).length := ⟨_, rfl⟩
    rw [← hN] at hL64 ⊢
    have hN1 : 1 ≤ N := by rw [hN, hl]; simp
    have hNl : N = l0.length + 1 := by rw [hN, hl]; simp
    obtain ⟨g, rfl, hcell⟩ := own_num own (i := N - 1) (x := s) (by rw [hl, hNl]; simp)
    have hgl2 : g < w1.heap.size := World.block_lt_of_cell? w1 _ hcell
    obtain ⟨K, hK⟩ : ∃ K : Nat, N = K + 1 := ⟨N - 1, by omega⟩
    subst hK
    rw [show K + 1 - 1 = K from rfl] at hcell
    have HB := Lib.hid b1
    have hptr := (HW.out.below b1).ptr
    have hblt := (HW.out.below b1).lt
    have HFI := Lib.hid (file_agg (w := w1) (b := b) (bw := bw) HNI.out hptr)
    have hs0 : (0 : Int) ≤ (s : Int) := by omega
    clear own b1 hN hl hgl hNl
    go_wp2_with fail
    refine HFI.out.mono ?_
    rintro e w2 ⟨rfl, b2⟩
    have HB2 := Lib.hid (HB.out.trans (b2.mono HB.out.size))
    have HBX := Lib.hid (box2 w2 (.pointer (some ⟨b, 0, none⟩)) (.func (Fn.func 69) #[.int .i64 (s : Nat)] #[]) 121)
    have HW2 := Lib.hid ((HW.out.below HB2.out).below (below_new w2 (.cells #[.pointer (some ⟨b, 0, none⟩), .func (Fn.func 69) #[.int .i64 (s : Nat)] #[]] 121)))
    have HB3 := Lib.hid (HB2.out.alloc HB2.out.size (.cells #[.pointer (some ⟨b, 0, none⟩), .func (Fn.func 69) #[.int .i64 (s : Nat)] #[]] 121))
    have hz : w2.heap.size < (w2.alloc (.cells #[.pointer (some ⟨b, 0, none⟩), .func (Fn.func 69) #[.int .i64 (s : Nat)] #[]] 121)).heap.size := by simp
    have HZ := Lib.hid hz
    clear b2 hptr hcell hz
    go_wp2_with fail
    generalize w2.alloc (.cells #[.pointer (some ⟨b, 0, none⟩), .func (Fn.func 69) #[.int .i64 (s : Nat)] #[]] 121) = W at *
    have HRD := Lib.hid (read_any2 HW2.out.dk HNI.out)
    refine HRD.out.mono ?_
    rintro e w3 ⟨A3, c3, rfl, own3, b3⟩
    obtain ⟨hb3, hc3, hm3⟩ := ownB_bytes own3
    have HSC := Lib.hid (Fm.scan_any (PWal.rdB D (PWal.segN s)) A3 _ c3 _ w3 (Nat.le_refl _) hb3 rfl (by have := HRL.out (PWal.segN s); omega) hc3 hm3)
    have HB4 := Lib.hid b3
    obtain ⟨M, hM⟩ : ∃ M, M = (PWal.rdB D (PWal.segN s)).length := ⟨_, rfl⟩
    rw [← hM] at HSC ⊢
    clear own3 b3 hb3 hc3 hm3 hM
    go_wp2_with fail
    refine HSC.out.mono ?_
    rintro e w4 ⟨b4, A4, c4, vs, rfl, _, _, _⟩
    have HB5 := Lib.hid (HB4.out.trans (b4.mono HB4.out.size))
    obtain ⟨L, hLL⟩ : ∃ L, L = (Fm.Fr.scan (PWal.rdB D (PWal.segN s))).1.length := ⟨_, rfl⟩
    rw [← hLL] at HT ⊢
    obtain ⟨x0, x1⟩ := HBX.out w4 HB5.out
    have hw4 : w2.heap.size < w4.heap.size := by have := HB5.out.size; have := HZ.out; omega
    clear b4 hLL
    by_cases h8 : L < 8
    · rw [if_pos h8] at HT
      have h8i : (L : Int) < 8 := by omega
      go_wp2_with fail
      go_ret2
      exact ⟨by rw [HT.out]; rfl, by rw [HT.out]; exact (HW.out.dk.stays (HB3.out.trans (HB5.out.mono HB3.out.size)))⟩
    · rw [if_neg h8] at HT
      have h8i : ¬ (L : Int) < 8 := by omega
      by_cases h9 : s = 9999999999
      · rw [if_pos h9] at HT
        subst h9
        go_wp2_with fail
        go_ret2
        exact ⟨by rw [HT.out]; rfl, by rw [HT.out]; exact (HW.out.dk.stays (HB3.out.trans (HB5.out.mono HB3.out.size)))⟩
      · rw [if_neg h9] at HT
        have h9i : ((s : Int) == 9999999999) = false := by simp; omega
        have h9j : ¬ (s : Int) = 9999999999 := by omega
        have hsm : (s : Int) ≤ 9999999999 := by omega
        have HSE := Lib.hid (settle_file ((HW2.out.below HB5.out).dk) HNI.out)
        go_wp2_with fail
        refine HSE.out.mono ?_
        rintro e w5 ⟨rfl, t5⟩
        have T5 := Lib.hid (t5.before (HB3.out.trans (HB5.out.mono HB3.out.size)))
        clear t5
        go_wp2_with fail
        go_ret2
        exact ⟨by rw [HT.out]; first | rfl | (simp; rfl), by rw [HT.out]; exact T5.out⟩

/-! ### a record is written -/
theorem write_eq (D : Disk) (bs : List UInt8) : PWal.write D bs = if (PWal.target D).2.2 = 0 then PlainDisk.append may (PWal.target D).2.1 (PWal.segN (PWal.target D).1) bs else (PWal.target D).2 := rfl
theorem target_le {D : Disk} : (PWal.target D).1 ≤ 9999999999 := by
  cases h : (PWal.segs D).getLast? with
  | none =>
    have : PWal.segs D = [] := List.getLast?_eq_none_iff.1 h
    rw [target_nil this]; simp
  | some s =>
    have hs := segs_lt D (List.mem_of_getLast? h)
    rw [target_last h]
    split
    · exact hs
    · split
      · simp
      · simp; omega
/-- four cells of a box that lies still -/
theorem box4_at {w : World} {x y z u : Value} {t : TypeId} {W w2 : World} {S : Nat → Prop} (hW : w.alloc (.cells #[x, y, z, u] t) = W) (hS : ∀ k, S k → k < w.heap.size) (hf : Fr S W w2) :
    ∀ V, Below w2.heap.size w2 V → V.cell? ⟨w.heap.size, 0, none⟩ = some x ∧ V.cell? ⟨w.heap.size, 1, none⟩ = some y ∧ V.cell? ⟨w.heap.size, 2, none⟩ = some z ∧ V.cell? ⟨w.heap.size, 3, none⟩ = some u := fun V hb => by
  have hlt : w.heap.size < W.heap.size := by rw [← hW]; simp
  have e : V.heap[w.heap.size]? = W.heap[w.heap.size]? := (hb.block w.heap.size (by have := hf.size; omega)).trans (hf.block _ hlt (fun q => by have := hS _ q; omega))
  have hx : V.heap[w.heap.size]? = some (.cells #[x, y, z, u] t (0, 0)) := by rw [e, ← hW]; exact heap_alloc_new w _
  exact ⟨by rw [Lib.cell_of_heap hx]; rfl, by rw [Lib.cell_of_heap hx]; rfl, by rw [Lib.cell_of_heap hx]; rfl, by rw [Lib.cell_of_heap hx]; rfl⟩
theorem box4_fr {w V V' : World} {x y z u : Value} {S2 : Nat → Prop} (h : V.cell? ⟨w.heap.size, 0, none⟩ = some x ∧ V.cell? ⟨w.heap.size, 1, none⟩ = some y ∧ V.cell? ⟨w.heap.size, 2, none⟩ = some z ∧ V.cell? ⟨w.heap.size, 3, none⟩ = some u) (hn : ¬ S2 w.heap.size) (hf : Fr S2 V V') :
    V'.cell? ⟨w.heap.size, 0, none⟩ = some x ∧ V'.cell? ⟨w.heap.size, 1, none⟩ = some y ∧ V'.cell? ⟨w.heap.size, 2, none⟩ = some z ∧ V'.cell? ⟨w.heap.size, 3, none⟩ = some u := by
  have hlt : w.heap.size < V.heap.size := World.block_lt_of_cell? V _ h.1
  have e := hf.block _ hlt hn
  exact ⟨(World.cell?_of_block (w := V) e).trans h.1, (World.cell?_of_block (w := V) e).trans h.2.1, (World.cell?_of_block (w := V) e).trans h.2.2.1, (World.cell?_of_block (w := V) e).trans h.2.2.2⟩
theorem chgRec_len {c : PWal.Chg} (h : OkC c) : c.enc.length ≤ 1000000 := by
  have key : ∀ l : List Wr.Pl.It, (PWal.row l).enc.length ≤ 5000 → (PWal.rcdOf l).length ≤ 1000000 := fun l hl => by
    unfold PWal.rcdOf; rw [Fm.Fr.rcd_length]; omega
  unfold PWal.Chg.enc
  split
  · refine key _ ?_
    have := row_len [PWal.num c.index]; have := num_len c.index
    rw [encs_cons, encs_nil] at *; omega
  · refine key _ ?_
    have := row_len [PWal.num c.index, PWal.num c.ent.term, PWal.txt c.ent.data]; have := num_len c.index; have := num_len c.ent.term; have := txt_len c.ent.data; have := h.d
    rw [encs_cons, encs_cons, encs_cons, encs_nil] at *; omega
set_option maxHeartbeats 2000000 in
theorem write_any2 {w : World} {bw b : Nat} {D : Disk} {S : Nat → Prop} (h : Ws w bw b D S) (c : PWal.Chg) (hc : OkC c) : Calls Tryz.prog 65 #[.pointer (some ⟨bw, 0, none⟩), chgV c] w (StepP (PWal.write D c.enc) b S w) := by
  have hmf : ∀ (fn : Fn) (first cap : Array Value) (w : World), (Instr.makeFunc fn first cap).run Tryz.prog w = .ok (.func fn first cap) w := fun _ _ _ _ => rfl
  have HC := Lib.hid (fun V => chgRec_any c V hc)
  have HCL := Lib.hid (chgRec_len hc)
  unfold chgV at HC ⊢
  obtain ⟨W, hW⟩ : ∃ W, w.alloc (.cells #[.int .i64 c.index, .bool c.trunc, .int .i64 c.ent.term, .string (str c.ent.data)] 112) = W := ⟨_, rfl⟩
  have hBW : Below w.heap.size w W := hW ▸ below_new _ _
  have HB := Lib.hid hBW
  have HT := Lib.hid (target_any (h.below hBW))
  have HW := Lib.hid (h.below hBW)
  have HSS := Lib.hid (fun k hk => (h.dk.blk k hk).2)
  have HBOX := Lib.hid (fun (w2 : World) (hf : Fr S W w2) => box4_at hW (fun k hk => (h.dk.blk k hk).2) hf)
  have HWE := Lib.hid hW
  have HWR := Lib.hid (write_eq D c.enc)
  have HTL := Lib.hid (target_le (D := D))
  generalize c.enc = rec0 at *
  generalize c.index = ci at *
  generalize c.trunc = ct at *
  generalize c.ent.term = cte at *
  generalize str c.ent.data = cs at *
  clear h hW hBW hc
  unfold TargetP at HT
  generalize PWal.target D = tg at *
  obtain ⟨sg, D2, e2⟩ := tg
  dsimp only at HT HWR HTL
  go_enter Tryz.func65, Tryz.ntmps65
  go_wp2_with fail
  rw [HWE.out]
  go_wp2_with fail
  refine HT.out.mono ?_
  rintro e w2 ⟨rfl, t2⟩
  obtain ⟨S2, ws2, up2, fr2⟩ := HW.out.to t2
  have W2 := Lib.hid ws2
  have U2 := Lib.hid up2
  have F2 := Lib.hid fr2
  have T2 := Lib.hid t2
  clear t2 ws2 up2 fr2
  by_cases he : e2 = 0
  · subst he
    rw [if_pos rfl] at HWR
    have HBX := Lib.hid (HBOX.out w2 F2.out)
    have HNB : Hid (¬ S2 w.heap.size) := Lib.hid (fun q => by
      rcases U2.out _ q with r | r
      · have := HSS.out _ r; omega
      · have h1 : W.heap.size = w.heap.size + 1 := by rw [← HWE.out]; simp
        omega)
    go_wp2_with fail
    have E0 : Hid (Below w2.heap.size w2 w2.drew) := Lib.hid (Below.refl _ w2).drew
    obtain ⟨x0, x1, x2, x3⟩ := HBX.out w2.drew E0.out
    go_region_held3 (fun V => V.cell? ⟨w.heap.size, 0, none⟩ = some (.int .i64 ci) ∧ V.cell? ⟨w.heap.size, 1, none⟩ = some (.bool ct) ∧ V.cell? ⟨w.heap.size, 2, none⟩ = some (.int .i64 cte) ∧ V.cell? ⟨w.heap.size, 3, none⟩ = some (.string cs))
      (first | exact HBX.out _ E0.out | exact HBX.out _ EA.out | exact HBX.out _ EB.out | exact XC.out)
      (first
        | (go_at_call 118; (refine (append_file ((W2.out.below EB.out).dk) (nameIs_seg sg HTL.out) rec0 _ HSRC.out).mono ?_); rintro e wc ⟨rfl, tc⟩; have TC := Lib.hid (tc.before EB.out); have XC := Lib.hid (box4_fr (HBX.out wb EB.out) HNB.out tc.fr); clear tc)
        | (go_at_call 119; (with_reducible refine (HC.out _).mono ?_); rintro e wb ⟨g, rfl, hg, hrow, bb⟩; have EB : Hid (Below w2.heap.size w2 wb) := Lib.hid (EA.out.trans (bb.mono EA.out.size)); have HSRC := Lib.hid (RecP.src (b := b) (Nat.lt_of_lt_of_le W2.out.dk.lt EA.out.size) hg hrow (by have := HCL.out; omega)); obtain ⟨y0, y1, y2, y3⟩ := HBX.out wb EB.out; clear bb hrow)
        | (go_at_call 68; (with_reducible refine (file_agg (b := b) (bw := bw) (nameIs_seg sg HTL.out) ((W2.out.below E0.out).ptr)).mono ?_); rintro e wa ⟨rfl, ba⟩; have EA : Hid (Below w2.heap.size w2 wa) := Lib.hid (E0.out.trans ba); obtain ⟨z0, z1, z2, z3⟩ := HBX.out wa EA.out; clear ba))
    all_goals
      go_wp2_with fail
      go_ret
      exact ⟨by rw [HWR.out]; rfl, by rw [HWR.out]; exact (DkTo.go (fun _ _ => trivial) U2.out F2.out TC.out).before HB.out⟩
  · rw [if_neg he] at HWR
    go_wp2_with fail
    go_ret
    exact ⟨by rw [HWR.out]; rfl, by rw [HWR.out]; exact T2.out.before HB.out⟩

/-! ### a file is made anew -/
def Box2 (V : World) (k : Nat) (x y : Value) : Prop := V.cell? ⟨k, 0, none⟩ = some x ∧ V.cell? ⟨k, 1, none⟩ = some y
theorem Box2.lt {V : World} {k : Nat} {x y : Value} (h : Box2 V k x y) : k < V.heap.size := World.block_lt_of_cell? V _ h.1
theorem Box2.fr {V V' : World} {k : Nat} {x y : Value} {S : Nat → Prop} (h : Box2 V k x y) (hn : ¬ S k) (hf : Fr S V V') : Box2 V' k x y := by
  have e := hf.block _ h.lt hn
  exact ⟨(World.cell?_of_block (w := V) e).trans h.1, (World.cell?_of_block (w := V) e).trans h.2⟩
theorem Box2.below {V V' : World} {k : Nat} {x y : Value} (h : Box2 V k x y) (hb : Below V.heap.size V V') : Box2 V' k x y := h.fr (S := fun _ => False) id (Fr.of_below hb)
theorem Box2.new (w : World) (x y : Value) (t : TypeId) : Box2 (w.alloc (.cells #[x, y] t)) w.heap.size x y := box2 w x y t _ (Below.refl _ _)
theorem up_not {S S' : Nat → Prop} {w w' : World} {k : Nat} (hu : ∀ k, S' k → Up S w w' k) (hn : ¬ S k) (hk : k < w.heap.size) : ¬ S' k := fun q => (hu k q).elim hn fun r => by omega
theorem andThen_ok {D : Disk} {f : Disk → Disk × Int} : PWal.andThen (D, 0) f = f D := rfl
theorem andThen_no {r : Disk × Int} {f : Disk → Disk × Int} (h : r.2 ≠ 0) : PWal.andThen r f = r := by unfold PWal.andThen; rw [if_neg h]
set_option maxHeartbeats 2000000 in
theorem replace_any {w : World} {bw b : Nat} {D : Disk} {S : Nat → Prop} (h : Ws w bw b D S) (l : List UInt8) (hl : l.length ≤ 900) (bs : List UInt8) (vb : Value) (hvb : Src w vb bs b) :
    Calls Tryz.prog 74 #[.pointer (some ⟨bw, 0, none⟩), .string (str l), vb] w (StepP (PWal.replace D l (l ++ PWal.dotNew) bs) b S w) := by
  have hmf : ∀ (fn : Fn) (first cap : Array Value) (w : World), (Instr.makeFunc fn first cap).run Tryz.prog w = .ok (.func fn first cap) w := fun _ _ _ _ => rfl
  have hst := store_fn
  have HNN := Lib.hid (nameIs_new l hl)
  have HNO := Lib.hid (nameIs_old l (by omega))
  have HMV := Lib.hid (fun (V : World) (D2 : Disk) (S2 : Nat → Prop) (hd : Dk V b D2 S2) => (move_file hd (a := .string (str l)) (a2 := .string (str l)) (na := l ++ PWal.dotNew) (nb := l) (by simp [PWal.dotNew]; omega) (by omega) (fun w hG => (newName_any l w (by omega)).mono fun _ _ ⟨he, hw⟩ => ⟨he, hw ▸ Below.refl _ _⟩) (fun w hG => (name_any l w).mono fun _ _ ⟨he, hw⟩ => ⟨he, hw ▸ Below.refl _ _⟩) : Calls Tryz.prog 124 #[.agg #[.pointer (some ⟨b, 0, none⟩), .func (Fn.func 82) #[.string (str l)] #[]], .agg #[.pointer (some ⟨b, 0, none⟩), .func (Fn.func 84) #[.string (str l)] #[]]] V (StepP (PlainDisk.move may D2 (l ++ PWal.dotNew) l) b S2 V)))
  have HW := Lib.hid h
  have HV := Lib.hid hvb
  have hptr := h.ptr
  have hblt := h.lt
  obtain ⟨A, c, rfl, _⟩ := id hvb
  have HRE : Hid (PWal.replace D l (l ++ PWal.dotNew) bs = PWal.andThen (PlainDisk.append may D (l ++ PWal.dotNew) bs) fun D1 => PWal.andThen (PlainDisk.sync may D1 (l ++ PWal.dotNew)) fun D2 => PlainDisk.move may D2 (l ++ PWal.dotNew) l) := Lib.hid rfl
  generalize l ++ PWal.dotNew = nn at *
  generalize str l = sl at *
  have HFI := Lib.hid (file_agg (w := w) (b := b) (bw := bw) HNN.out hptr)
  clear h hvb
  go_enter Tryz.func74, Tryz.ntmps74
  go_wp2_with fail
  refine HFI.out.mono ?_
  rintro e w1 ⟨rfl, b1⟩
  have hBN := Box2.new w1 (.pointer (some ⟨b, 0, none⟩)) (.func (Fn.func 82) #[.string sl] #[]) 121
  have HBX := Lib.hid hBN
  have HB1 := Lib.hid b1
  have HB2 := Lib.hid (b1.alloc b1.size (.cells #[.pointer (some ⟨b, 0, none⟩), .func (Fn.func 82) #[.string sl] #[]] 121))
  have hSb : ¬ S w1.heap.size := fun q => by have := (HW.out.dk.blk _ q).2; have := b1.size; omega
  have HSB := Lib.hid hSb
  obtain ⟨k, hk⟩ : ∃ k, k = w1.heap.size := ⟨_, rfl⟩
  rw [← hk] at HBX HSB
  have HK := Lib.hid hk
  clear b1 hBN hSb hptr
  go_wp2_with fail
  rw [← HK.out]
  clear hk
  generalize w1.alloc (.cells #[.pointer (some ⟨b, 0, none⟩), .func (Fn.func 82) #[.string sl] #[]] 121) = W at *
  have HAP := Lib.hid (append_file ((HW.out.below HB2.out).dk) HNN.out bs _ (HV.out.keep fun k hk _ => HB2.out.block k hk))
  obtain ⟨x0, x1⟩ := id HBX.out
  go_wp2_with fail
  refine HAP.out.mono ?_
  rintro e w3 ⟨rfl, t3⟩
  obtain ⟨S3, ws3, up3, fr3⟩ := (HW.out.below HB2.out).to t3
  have W3 := Lib.hid ws3
  have U3 := Lib.hid up3
  have F3 := Lib.hid fr3
  have T3 := Lib.hid t3
  have HBX3 := Lib.hid (HBX.out.fr HSB.out fr3)
  have HSB3 := Lib.hid (up_not up3 HSB.out HBX.out.lt)
  generalize PlainDisk.append may D nn bs = r at *
  obtain ⟨D3, e3⟩ := r
  clear t3 ws3 up3 fr3 x0 x1
  by_cases he : e3 = 0
  · subst he
    rw [andThen_ok] at HRE
    obtain ⟨x0, x1⟩ := id HBX3.out
    have HSY := Lib.hid (sync_file W3.out.dk HNN.out)
    go_wp2_with fail
    refine HSY.out.mono ?_
    rintro e w4 ⟨rfl, t4⟩
    obtain ⟨S4, ws4, up4, fr4⟩ := W3.out.to t4
    have W4 := Lib.hid ws4
    have U4 := Lib.hid up4
    have F4 := Lib.hid fr4
    have T4 := Lib.hid t4
    have HBX4 := Lib.hid (HBX3.out.fr HSB3.out fr4)
    have HSB4 := Lib.hid (up_not up4 HSB3.out HBX3.out.lt)
    generalize PlainDisk.sync may D3 nn = r at *
    obtain ⟨D4, e4⟩ := r
    clear t4 ws4 up4 fr4 x0 x1
    by_cases he : e4 = 0
    · subst he
      rw [andThen_ok] at HRE
      go_wp2_with fail
      have E0 : Hid (Below w4.heap.size w4 w4.drew) := Lib.hid (Below.refl _ w4).drew
      obtain ⟨x0, x1⟩ := id (HBX4.out.below E0.out)
      go_region_held3 (fun V => V.cell? ⟨k, 0, none⟩ = some (.pointer (some ⟨b, 0, none⟩)) ∧ V.cell? ⟨k, 1, none⟩ = some (.func (Fn.func 82) #[.string sl] #[]))
        (first | exact HBX4.out.below E0.out | exact HBX4.out.below EA.out | exact XC.out)
        (first
          | (go_at_call 124; (refine (HMV.out wa D4 S4 ((W4.out.below EA.out).dk)).mono ?_); rintro e wc ⟨rfl, tc⟩; have TC := Lib.hid (tc.before EA.out); have XC := Lib.hid ((HBX4.out.below EA.out).fr HSB4.out tc.fr); clear tc)
          | (go_at_call 68; (with_reducible refine (file_agg (b := b) (bw := bw) HNO.out ((W4.out.below E0.out).ptr)).mono ?_); rintro e wa ⟨rfl, ba⟩; have EA : Hid (Below w4.heap.size w4 wa) := Lib.hid (E0.out.trans ba); obtain ⟨z0, z1⟩ := id (HBX4.out.below EA.out); clear ba))
      all_goals
        go_wp2_with fail
        go_ret
        exact ⟨by rw [HRE.out]; rfl, by rw [HRE.out]; exact ((DkTo.go (fun _ _ => trivial) U3.out F3.out (DkTo.go (fun _ _ => trivial) U4.out F4.out TC.out))).before HB2.out⟩
    · rw [andThen_no he] at HRE
      go_wp2_with fail
      go_ret
      exact ⟨by rw [HRE.out]; rfl, by rw [HRE.out]; exact (DkTo.go (fun _ _ => trivial) U3.out F3.out T4.out).before HB2.out⟩
  · rw [andThen_no he] at HRE
    go_wp2_with fail
    go_ret
    exact ⟨by rw [HRE.out]; rfl, by rw [HRE.out]; exact T3.out.before HB2.out⟩
end Go.Proofs.YtjcikhacekmcfaaGreatDoor
namespace Go.Proofs.YtjcikhacekmcfaaGreatDoor
open Go.RowKit
open PlainDisk (File Disk)
set_option linter.unusedVariables false
set_option maxRecDepth 100000

theorem str_vote : (⟨#[118, 111, 116, 101]⟩ : ByteArray) = str PWal.voteN := rfl
theorem str_snap : (⟨#[115, 110, 97, 112]⟩ : ByteArray) = str PWal.snapN := rfl
theorem src_below {w w' : World} {vb : Value} {bs : List UInt8} {b : Nat} (h : Src w vb bs b) (hb : Below w.heap.size w w') : Src w' vb bs b := h.keep fun k hk _ => hb.block k hk
theorem writeVote_eq (D : Disk) (bs : List UInt8) : PWal.writeVote D bs = if 400 < (PWal.rdB D PWal.voteN).length then PWal.replace D PWal.voteN (PWal.voteN ++ PWal.dotNew) bs else PWal.andThen (PlainDisk.append may D PWal.voteN bs) fun D1 => PlainDisk.sync may D1 PWal.voteN := rfl
set_option maxHeartbeats 2000000 in
theorem writeVote_any {w : World} {bw b : Nat} {D : Disk} {S : Nat → Prop} (h : Ws w bw b D S) (bs : List UInt8) (vb : Value) (hvb : Src w vb bs b) :
    Calls Tryz.prog 80 #[.pointer (some ⟨bw, 0, none⟩), vb] w (StepP (PWal.writeVote D bs) b S w) := by
  have hmf : ∀ (fn : Fn) (first cap : Array Value) (w : World), (Instr.makeFunc fn first cap).run Tryz.prog w = .ok (.func fn first cap) w := fun _ _ _ _ => rfl
  have hst := store_fn
  have HNO := Lib.hid (nameIs_old PWal.voteN (by decide))
  rw [← str_vote] at HNO
  have HW := Lib.hid h
  have HV := Lib.hid hvb
  have hptr := h.ptr
  have hblt := h.lt
  obtain ⟨A, c, rfl, _⟩ := id hvb
  have HWV := Lib.hid (writeVote_eq D bs)
  have HFI := Lib.hid (file_agg (w := w) (b := b) (bw := bw) HNO.out hptr)
  clear h hvb
  go_enter Tryz.func80, Tryz.ntmps80
  go_wp2_with fail
  refine HFI.out.mono ?_
  rintro e w1 ⟨rfl, b1⟩
  have hBN := Box2.new w1 (.pointer (some ⟨b, 0, none⟩)) (.func (Fn.func 84) #[.string ⟨#[118, 111, 116, 101]⟩] #[]) 121
  have HBX := Lib.hid hBN
  have HB2 := Lib.hid (b1.alloc b1.size (.cells #[.pointer (some ⟨b, 0, none⟩), .func (Fn.func 84) #[.string ⟨#[118, 111, 116, 101]⟩] #[]] 121))
  have hSb : ¬ S w1.heap.size := fun q => by have := (HW.out.dk.blk _ q).2; have := b1.size; omega
  have HSB := Lib.hid hSb
  obtain ⟨k, hk⟩ : ∃ k, k = w1.heap.size := ⟨_, rfl⟩
  rw [← hk] at HBX HSB
  have HK := Lib.hid hk
  clear b1 hBN hSb hptr
  go_wp2_with fail
  rw [← HK.out]
  clear hk
  generalize w1.alloc (.cells #[.pointer (some ⟨b, 0, none⟩), .func (Fn.func 84) #[.string ⟨#[118, 111, 116, 101]⟩] #[]] 121) = W at *
  have HRD := Lib.hid (read_any2 ((HW.out.below HB2.out).dk) HNO.out)
  obtain ⟨x0, x1⟩ := id HBX.out
  refine HRD.out.mono ?_
  rintro e w3 ⟨A3, c3, rfl, _, b3⟩
  have HB3 := Lib.hid (HB2.out.trans (b3.mono HB2.out.size))
  have HBX3 := Lib.hid (HBX.out.below b3)
  have HBW := Lib.hid b3
  obtain ⟨M, hM⟩ : ∃ M, M = (PWal.rdB D PWal.voteN).length := ⟨_, rfl⟩
  rw [← hM] at HWV ⊢
  clear b3 x0 x1 hM
  obtain ⟨x0, x1⟩ := id HBX3.out
  by_cases h4 : 400 < M
  · rw [if_pos h4] at HWV
    have h4i : (400 : Int) < (M : Int) := by omega
    have HRP := Lib.hid (replace_any (HW.out.below HB3.out) PWal.voteN (by decide) bs _ (src_below HV.out HB3.out))
    rw [← str_vote] at HRP
    go_wp2_with fail
    refine HRP.out.mono ?_
    rintro e w4 ⟨rfl, t4⟩
    have T4 := Lib.hid (t4.before HB3.out)
    clear t4
    go_wp2_with fail
    go_ret
    exact ⟨by rw [HWV.out]; rfl, by rw [HWV.out]; exact T4.out⟩
  · rw [if_neg h4] at HWV
    have h4i : ¬ (400 : Int) < (M : Int) := by omega
    have HAP := Lib.hid (append_file ((HW.out.below HB3.out).dk) HNO.out bs _ (src_below HV.out HB3.out))
    go_wp2_with fail
    refine HAP.out.mono ?_
    rintro e w4 ⟨rfl, t4⟩
    obtain ⟨S4, ws4, up4, fr4⟩ := (HW.out.below HB3.out).to t4
    have W4 := Lib.hid ws4
    have U4 := Lib.hid up4
    have F4 := Lib.hid fr4
    have T4 := Lib.hid (t4.before HB3.out)
    have HBX4 := Lib.hid (HBX3.out.fr HSB.out fr4)
    generalize PlainDisk.append may D PWal.voteN bs = r at *
    obtain ⟨D4, e4⟩ := r
    clear t4 ws4 up4 fr4 x0 x1
    by_cases he : e4 = 0
    · subst he
      rw [andThen_ok] at HWV
      obtain ⟨x0, x1⟩ := id HBX4.out
      have HSY := Lib.hid (sync_file W4.out.dk HNO.out)
      go_wp2_with fail
      refine HSY.out.mono ?_
      rintro e w5 ⟨rfl, t5⟩
      have T5 := Lib.hid ((DkTo.go (fun _ _ => trivial) U4.out F4.out t5).before HB3.out)
      clear t5
      go_wp2_with fail
      go_ret
      exact ⟨by rw [HWV.out]; rfl, by rw [HWV.out]; exact T5.out⟩
    · rw [andThen_no he] at HWV
      go_wp2_with fail
      go_ret
      exact ⟨by rw [HWV.out]; rfl, by rw [HWV.out]; exact T4.out⟩
end Go.Proofs.YtjcikhacekmcfaaGreatDoor
namespace Go.Proofs.YtjcikhacekmcfaaGreatDoor
open Go.RowKit
open PlainDisk (File Disk)
open PWal (St Ent Chg)
set_option linter.unusedVariables false
set_option maxRecDepth 100000

/-! ### a wal's state in memory -/
def entC (l : List Ent) : List Value := l.flatMap fun e => [.int .i64 e.term, .string (str e.data)]
theorem entC_len (l : List Ent) : (entC l).length = l.length * 2 := by
  induction l with
  | nil => rfl
  | cons x r ih => unfold entC at ih ⊢; rw [List.flatMap_cons, List.length_append, ih, List.length_cons]; simp; omega
theorem entC_append (a b : List Ent) : entC (a ++ b) = entC a ++ entC b := by unfold entC; rw [List.flatMap_append]
theorem entC_at {l : List Ent} {i : Nat} {e : Ent} (h : l[i]? = some e) : (entC l)[i * 2]? = some (.int .i64 e.term) ∧ (entC l)[i * 2 + 1]? = some (.string (str e.data)) := by
  induction l generalizing i with
  | nil => simp at h
  | cons x r ih =>
    have q : entC (x :: r) = [.int .i64 x.term, .string (str x.data)] ++ entC r := by unfold entC; rw [List.flatMap_cons]
    rw [q]
    cases i with
    | zero =>
      simp only [List.getElem?_cons_zero, Option.some.injEq] at h
      subst h
      exact ⟨rfl, rfl⟩
    | succ i =>
      have := ih (i := i) (by simpa using h)
      rw [show (i + 1) * 2 = i * 2 + 2 by omega, show i * 2 + 2 + 1 = i * 2 + 1 + 2 by omega]
      exact this
theorem entC_take (l : List Ent) (k : Nat) : (entC l).take (k * 2) = entC (l.take k) := by
  induction l generalizing k with
  | nil => simp [entC]
  | cons x r ih =>
    have q : ∀ (y : Ent) (t : List Ent), entC (y :: t) = [.int .i64 y.term, .string (str y.data)] ++ entC t := fun y t => by unfold entC; rw [List.flatMap_cons]
    cases k with
    | zero => simp [entC]
    | succ k =>
      rw [List.take_succ_cons, q, q, show (k + 1) * 2 = k * 2 + 1 + 1 by omega]
      simp only [List.cons_append, List.nil_append, List.take_succ_cons]
      rw [ih]
def OwnE (w : World) (base : Nat) (v : Value) (l : List Ent) : Prop := w.ownsRow base 75 2 v l.length (entC l)
def stC (b : Nat) (s : St) (lv : Value) : Array Value := #[.pointer (some ⟨b, 0, none⟩), .int .i64 s.term, .int .i64 s.vote, .int .i64 s.sidx, .int .i64 s.sterm, .string (str s.sdata), lv]
/-- bounds -/
structure FineS (s : St) : Prop where
  i0 : 0 ≤ s.sidx
  i1 : s.sidx ≤ 4611686018427387904
  len : s.log.length ≤ 10000000
  t : Wr.InR s.term
  v : Wr.InR s.vote
  st : Wr.InR s.sterm
  d : s.sdata.length ≤ 65536
  e : ∀ x ∈ s.log, Wr.InR x.term ∧ x.data.length ≤ 4000
/-- the wal stands in memory -/
structure SAt (w : World) (bw b : Nat) (s : St) (lv : Value) : Prop where
  cells : w.heap[bw]? = some (.cells (stC b s lv) 91 (0, 0))
  log : OwnE w 0 lv s.log
  fine : FineS s
theorem SAt.lt {w : World} {bw b : Nat} {s : St} {lv : Value} (h : SAt w bw b s lv) : bw < w.heap.size := (Array.getElem?_eq_some_iff.1 h.cells).1
theorem SAt.below {w w' : World} {bw b : Nat} {s : St} {lv : Value} (h : SAt w bw b s lv) (hb : Below w.heap.size w w') : SAt w' bw b s lv :=
  ⟨(hb.block bw h.lt).trans h.cells, own_belows h.log hb, h.fine⟩
theorem SAt.at {w : World} {bw b : Nat} {s : St} {lv : Value} (h : SAt w bw b s lv) : w.cell? ⟨bw, 0, none⟩ = some (.pointer (some ⟨b, 0, none⟩)) ∧ w.cell? ⟨bw, 1, none⟩ = some (.int .i64 s.term) ∧ w.cell? ⟨bw, 2, none⟩ = some (.int .i64 s.vote) ∧ w.cell? ⟨bw, 3, none⟩ = some (.int .i64 s.sidx) ∧
    w.cell? ⟨bw, 4, none⟩ = some (.int .i64 s.sterm) ∧ w.cell? ⟨bw, 5, none⟩ = some (.string (str s.sdata)) ∧ w.cell? ⟨bw, 6, none⟩ = some lv := by
  refine ⟨?_, ?_, ?_, ?_, ?_, ?_, ?_⟩ <;> (rw [Lib.cell_of_heap h.cells]; rfl)
theorem SAt.form {w : World} {bw b : Nat} {s : St} {lv : Value} (h : SAt w bw b s lv) : ∃ A c, lv = .slice A s.log.length c ∧ s.log.length ≤ c ∧ c ≤ 9223372036854775807 ∧ (A = none → c = 0) := own_form h.log

theorem mayBe_any (n : Int) (w : World) : Calls Tryz.prog 116 #[.int .i64 n] w fun e w' => e = .returned (.bool (PWal.mayBe n)) ∧ w = w' := by
  have h1 : PWal.mayBe n = (decide (1 ≤ n) && decide (n ≤ 4611686018427387904)) := rfl
  rw [h1]
  by_cases a : 1 ≤ n
  · by_cases c : n ≤ 4611686018427387904
    · rw [show (decide (1 ≤ n) && decide (n ≤ 4611686018427387904)) = true from by simp [a, c]]
      go_enter Tryz.func116, Tryz.ntmps116
      go_wp2_with fail
      go_ret
      exact ⟨rfl, rfl⟩
    · rw [show (decide (1 ≤ n) && decide (n ≤ 4611686018427387904)) = false from by simp [c]]
      go_enter Tryz.func116, Tryz.ntmps116
      go_wp2_with fail
      go_ret
      exact ⟨by simp, rfl⟩
  · rw [show (decide (1 ≤ n) && decide (n ≤ 4611686018427387904)) = false from by simp [a]]
    go_enter Tryz.func116, Tryz.ntmps116
    go_wp2_with fail
    go_ret
    exact ⟨by simp, rfl⟩
theorem last_any {w : World} {bw b : Nat} {s : St} {lv : Value} (h : SAt w bw b s lv) : Calls Tryz.prog 115 #[.pointer (some ⟨bw, 1, none⟩)] w fun e w' => e = .returned (.int .i64 s.last) ∧ Below w.heap.size w w' := by
  obtain ⟨c0, c1, c2, c3, c4, c5, c6⟩ := h.at
  obtain ⟨A, c, rfl, _⟩ := h.form
  have hl := h.lt
  have f := h.fine
  have h0 := f.i0
  have h1 := f.i1
  have h2 := f.len
  show Calls Tryz.prog 115 #[.pointer (some ⟨bw, 1, none⟩)] w fun e w' => e = .returned (.int .i64 (s.sidx + (s.log.length : Nat))) ∧ Below w.heap.size w w'
  generalize s.sidx = si at *
  generalize s.log.length = n at *
  have hs : (si + (n : Int)) ≤ 9223372036854775807 := by omega
  have hw : IntKind.i64.wrap (si + (n : Int)) = si + (n : Int) := IntWalk.i64_in _ (by omega)
  clear h f
  go_enter Tryz.func115, Tryz.ntmps115
  go_wp2_with fail
  go_quiet (fail)
  go_wp2_with fail
  go_ret
  exact ⟨rfl, below_drewN (Below.refl _ _) _⟩

/-! ### entries that lie in memory, and a copy of them -/
theorem info75 : (Tryz.prog.info? 75).map (fun i => (i.zero, i.size, i.bytes)) = some (some (.agg #[.int .i64 0, .string ⟨#[]⟩]), 2, 24) := by kernel_rfl
theorem entC_one (l : List Ent) : ∀ u ∈ entC l, u.oneCell' = true := by
  intro u hu
  unfold entC at hu
  rw [List.mem_flatMap] at hu
  obtain ⟨e, _, h⟩ := hu
  simp at h
  rcases h with rfl | rfl <;> rfl
def EntAt (w : World) (A : Option Addr) (c : Nat) (l : List Ent) : Prop := l.length ≤ c ∧ c ≤ 9223372036854775807 ∧ (A = none → c = 0) ∧ (l ≠ [] → ∃ g off, A = some ⟨g, off, none⟩ ∧ ∀ j u, (entC l)[j]? = some u → w.cell? ⟨g, off + j, none⟩ = some u)
theorem EntAt.keep {w w' : World} {A : Option Addr} {c : Nat} {l : List Ent} (h : EntAt w A c l) (hb : Below w.heap.size w w') : EntAt w' A c l := by
  obtain ⟨h1, h2, h3, h4⟩ := h
  refine ⟨h1, h2, h3, fun hne => ?_⟩
  obtain ⟨g, off, e, q⟩ := h4 hne
  exact ⟨g, off, e, fun j u hu => (hb.cell (p := ⟨g, off + j, none⟩) (World.block_lt_of_cell? w _ (q j u hu))).trans (q j u hu)⟩
theorem OwnE.entAt {w : World} {base : Nat} {A : Option Addr} {c : Nat} {l : List Ent} (h : OwnE w base (.slice A l.length c) l) : EntAt w A c l := by
  obtain ⟨A', c', e, h1, h2, h3⟩ := own_form h
  obtain ⟨rfl, rfl⟩ : A = A' ∧ c = c' := by injection e with q1 q2 q3; exact ⟨q1, q3⟩
  refine ⟨h1, h2, h3, fun hne => ?_⟩
  cases l with
  | nil => exact absurd rfl hne
  | cons x r =>
    obtain ⟨g, rfl, _⟩ := own_at h (i := 0) (v := .int .i64 x.term) rfl
    refine ⟨g, 0, rfl, fun j u hu => ?_⟩
    obtain ⟨g', e', hc, _⟩ := own_at h hu
    obtain rfl : g = g' := by injection e' with e'; injection e'
    rw [Nat.zero_add]; exact hc
theorem eq_nilE (A : Option Addr) (n c : Nat) (w : World) : (binOp .eql 35 (.slice A n c) (.slice none 0 0)).run Tryz.prog w = .ok (.bool A.isNone) w := by
  unfold binOp
  simp [run_equal_slice_nil w 35 75 A n c Tryz.underlying35]
theorem cloneE_any (l : List Ent) (A : Option Addr) (c : Nat) (w : World) (h : EntAt w A c l) (hn : l.length ≤ 10000000) :
    Calls Tryz.prog 112 #[.slice A l.length c] w fun e w' => ∃ A' c', e = .returned (.slice A' l.length c') ∧ OwnE w' w.heap.size (.slice A' l.length c') l ∧ Below w.heap.size w w' := by
  obtain ⟨h1, h2, h3, h4⟩ := h
  cases A with
  | none =>
    have hc0 := h3 rfl
    subst hc0
    have hb : l = [] := List.eq_nil_of_length_eq_zero (by omega)
    subst hb
    rw [List.length_nil]
    have he := fun W => eq_nilE none 0 0 W
    rw [show (none : Option Addr).isNone = true from rfl] at he
    clear h1 h2 h3 h4
    go_enter Tryz.func112, Tryz.ntmps112
    go_wp2_with fail
    go_ret
    exact ⟨none, 0, rfl, ⟨rfl, .inl ⟨rfl, rfl⟩⟩, Below.refl _ _⟩
  | some a =>
    have HC : Hid (∀ (W : World), Below w.heap.size w W → ∀ j u, (entC l)[j]? = some u → W.cell? (a.add j) = some u) := Lib.hid (fun W hb j u hu => by
      have hne : l ≠ [] := fun e => by rw [e] at hu; simp [entC] at hu
      obtain ⟨g, off, e, q⟩ := h4 hne
      injection e with e
      subst e
      have := (hb.cell (p := ⟨g, off + j, none⟩) (World.block_lt_of_cell? w _ (q j u hu))).trans (q j u hu)
      unfold Addr.add
      split
      · subst j; simpa using this
      · exact this)
    obtain ⟨n, hn'⟩ : ∃ n, n = l.length := ⟨_, rfl⟩
    have HN := Lib.hid hn'
    rw [← hn'] at hn ⊢
    have he := fun W => eq_nilE (some a) n c W
    rw [show (some a : Option Addr).isNone = false from rfl] at he
    obtain ⟨i, hi, hz0, hz1, hz2⟩ := Fm.info_parts3 info75
    have HI := Lib.hid (And.intro hi (And.intro hz0 (And.intro hz1 hz2)))
    clear h1 h2 h3 h4 hn' hi hz0 hz1 hz2
    go_enter Tryz.func112, Tryz.ntmps112
    go_wp2_with (at_builtin; (refine wpList_append_own _ rfl (.tmp 5) (.tmp 6) 35 rfl w.heap.size 75 i _ 2 24 Tryz.underlying35 HI.out.1 HI.out.2.1 HI.out.2.2.1 HI.out.2.2.2 rfl (by omega) _ 0 [] rfl (World.ownsRow_made w #[] 0 (Nat.le_refl _) (by simp [maxLen]) (by simp)) a n c (entC l) rfl (by rw [entC_len, HN.out]) (HC.out _ (below_new _ _)) (entC_one l) (by simp only [maxLen]; omega) (by omega) (by simp) ?_))
    intro v' w2 h2 h3 h4
    have hb2 : Below w.heap.size w w2 := (below_new w _).grown h3 (by simp) (fun k hk => by simp [Value.ownBlock] at hk; omega)
    obtain ⟨A', c', rfl, _⟩ := own_form h2
    have HO : Hid (OwnE w2 w.heap.size (.slice A' n c') l) := Lib.hid (by unfold OwnE; rw [← HN.out]; exact h2)
    have HB := Lib.hid hb2
    clear h2 h3 h4 hb2
    go_wp2_with fail
    go_ret
    exact ⟨A', c', rfl, HO.out, HB.out⟩

/-! ### a copy of the state -/
def stV (s : St) (lv : Value) : Value := .agg #[.int .i64 s.term, .int .i64 s.vote, .int .i64 s.sidx, .int .i64 s.sterm, .string (str s.sdata), lv]
def StateP (s : St) (w : World) (e : Ending) (w' : World) : Prop := ∃ A c, e = .returned (stV s (.slice A s.log.length c)) ∧ OwnE w' w.heap.size (.slice A s.log.length c) s.log ∧ Below w.heap.size w w'
set_option maxHeartbeats 2000000 in
theorem copied_any {w : World} {bw b : Nat} {s : St} {lv : Value} (h : SAt w bw b s lv) : Calls Tryz.prog 57 #[.pointer (some ⟨bw, 1, none⟩)] w (StateP s w) := by
  obtain ⟨c0, c1, c2, c3, c4, c5, c6⟩ := h.at
  obtain ⟨A, c, rfl, _⟩ := h.form
  have hl := h.lt
  have HE := Lib.hid (OwnE.entAt h.log)
  have HN := Lib.hid h.fine.len
  unfold StateP stV
  obtain ⟨n, hn⟩ : ∃ n, n = s.log.length := ⟨_, rfl⟩
  rw [← hn] at c6 ⊢
  have HCL : Hid (∀ W, Below w.heap.size w W → Calls Tryz.prog 112 #[.slice A n c] W fun e w' => ∃ A' c', e = .returned (.slice A' n c') ∧ OwnE w' W.heap.size (.slice A' n c') s.log ∧ Below W.heap.size W w') := Lib.hid (fun W hb => by rw [hn]; exact cloneE_any s.log A c W (HE.out.keep hb) HN.out)
  generalize s.term = st at *
  generalize s.vote = sv at *
  generalize s.sidx = si at *
  generalize s.sterm = ss at *
  generalize str s.sdata = sd at *
  clear h hn
  obtain ⟨W, hW⟩ : ∃ W, (w.alloc (.cells #[.int .i64 0, .int .i64 0, .int .i64 0, .int .i64 0, .string ⟨#[]⟩, .slice none 0 0] 53)).alloc (.cells #[.int .i64 st, .int .i64 sv, .int .i64 si, .int .i64 ss, .string sd, .slice A n c] 53) = W := ⟨_, rfl⟩
  have HW := Lib.hid hW
  have hbW : Below w.heap.size w W := hW ▸ ((below_new w _).alloc (by simp) _)
  have hx0 : W.heap[w.heap.size]? = some (.cells #[.int .i64 0, .int .i64 0, .int .i64 0, .int .i64 0, .string ⟨#[]⟩, .slice none 0 0] 53 (0, 0)) := by
    rw [← hW, Below.heap_alloc _ _ _ (by simp)]; exact heap_alloc_new w _
  have hx1 : W.heap[w.heap.size + 1]? = some (.cells #[.int .i64 st, .int .i64 sv, .int .i64 si, .int .i64 ss, .string sd, .slice A n c] 53 (0, 0)) := by
    rw [← hW]
    have := heap_alloc_new (w.alloc (.cells #[.int .i64 0, .int .i64 0, .int .i64 0, .int .i64 0, .string ⟨#[]⟩, .slice none 0 0] 53)) (.cells #[.int .i64 st, .int .i64 sv, .int .i64 si, .int .i64 ss, .string sd, .slice A n c] 53)
    simpa using this
  have hzW : W.heap.size = w.heap.size + 2 := by rw [← hW]; simp
  have HB := Lib.hid hbW
  have HX0 := Lib.hid hx0
  have HX1 := Lib.hid hx1
  have HZ := Lib.hid hzW
  have k6 : W.cell? ⟨bw, 6, none⟩ = some (.slice A n c) := (hbW.cell (p := ⟨bw, 6, none⟩) hl).trans c6
  have hlW : bw < W.heap.size := by omega
  clear hW hbW hx0 hx1 hzW
  go_enter Tryz.func57, Tryz.ntmps57
  go_wp2_with fail
  rw [HW.out]
  go_wp2_with fail
  refine (HCL.out W HB.out).mono ?_
  rintro e w2 ⟨A', c', rfl, own, b2⟩
  have y0 : w2.heap[w.heap.size]? = some (.cells #[.int .i64 0, .int .i64 0, .int .i64 0, .int .i64 0, .string ⟨#[]⟩, .slice none 0 0] 53 (0, 0)) := (b2.block _ (by have := HZ.out; omega)).trans HX0.out
  have y1 : w2.heap[w.heap.size + 1]? = some (.cells #[.int .i64 st, .int .i64 sv, .int .i64 si, .int .i64 ss, .string sd, .slice A n c] 53 (0, 0)) := (b2.block _ (by have := HZ.out; omega)).trans HX1.out
  have p0 : w2.cell? ⟨w.heap.size, 0, none⟩ = some (.int .i64 0) := by rw [Lib.cell_of_heap y0]; rfl
  have p1 : w2.cell? ⟨w.heap.size, 1, none⟩ = some (.int .i64 0) := by rw [Lib.cell_of_heap y0]; rfl
  have p2 : w2.cell? ⟨w.heap.size, 2, none⟩ = some (.int .i64 0) := by rw [Lib.cell_of_heap y0]; rfl
  have p3 : w2.cell? ⟨w.heap.size, 3, none⟩ = some (.int .i64 0) := by rw [Lib.cell_of_heap y0]; rfl
  have p4 : w2.cell? ⟨w.heap.size, 4, none⟩ = some (.string ⟨#[]⟩) := by rw [Lib.cell_of_heap y0]; rfl
  have p5 : w2.cell? ⟨w.heap.size, 5, none⟩ = some (.slice none 0 0) := by rw [Lib.cell_of_heap y0]; rfl
  have q0 : w2.cell? ⟨w.heap.size + 1, 0, none⟩ = some (.int .i64 st) := by rw [Lib.cell_of_heap y1]; rfl
  have q1 : w2.cell? ⟨w.heap.size + 1, 1, none⟩ = some (.int .i64 sv) := by rw [Lib.cell_of_heap y1]; rfl
  have q2 : w2.cell? ⟨w.heap.size + 1, 2, none⟩ = some (.int .i64 si) := by rw [Lib.cell_of_heap y1]; rfl
  have q3 : w2.cell? ⟨w.heap.size + 1, 3, none⟩ = some (.int .i64 ss) := by rw [Lib.cell_of_heap y1]; rfl
  have q4 : w2.cell? ⟨w.heap.size + 1, 4, none⟩ = some (.string sd) := by rw [Lib.cell_of_heap y1]; rfl
  have q5 : w2.cell? ⟨w.heap.size + 1, 5, none⟩ = some (.slice A n c) := by rw [Lib.cell_of_heap y1]; rfl
  have g0 := Lib.frozen_of_heap y0
  have g1 := Lib.frozen_of_heap y1
  have HO := Lib.hid own
  have HB2 := Lib.hid (HB.out.trans (b2.mono (by have := HZ.out; omega)))
  clear own b2 y0 y1 k6
  go_wp2_with fail
  refine bodyPost_ret (v := .agg #[.int .i64 st, .int .i64 sv, .int .i64 si, .int .i64 ss, .string sd, .slice A' n c']) (by simp [results, Tryz.results57, go_sem, p0, p1, p2, p3, p4, p5]) rfl ⟨A', c', rfl, ?_, ?_⟩
  · refine Fm.own_mono (own_frame HO.out ?_) HB.out.size
    intro k hk
    have hlt := (World.ownsRow.lt HO.out k hk).1
    have hz := HZ.out
    have h0 : k ≠ w.heap.size := by omega
    have h1 : k ≠ w.heap.size + 1 := by omega
    iterate 7 (rw [Below.heap_setCell _ _ _ k (by first | exact h0 | exact h1)])
  · have hz : w.heap.size ≤ w.heap.size + 1 := by omega
    exact ((((((HB2.out.setCell (p := ⟨w.heap.size + 1, 5, none⟩) hz _).setCell (Nat.le_refl _) _).setCell (Nat.le_refl _) _).setCell (Nat.le_refl _) _).setCell (Nat.le_refl _) _).setCell (Nat.le_refl _) _).setCell (Nat.le_refl _) _
set_option maxHeartbeats 2000000 in
theorem state_any {w : World} {bw b : Nat} {s : St} {lv : Value} (h : SAt w bw b s lv) : Calls Tryz.prog 24 #[.pointer (some ⟨bw, 0, none⟩)] w (StateP s w) := by
  have hl := h.lt
  obtain ⟨W, hW⟩ : ∃ W, w.alloc (.cells #[.int .i64 0, .int .i64 0, .int .i64 0, .int .i64 0, .string ⟨#[]⟩, .slice none 0 0] 53) = W := ⟨_, rfl⟩
  have HW := Lib.hid hW
  have hbW : Below w.heap.size w W := hW ▸ below_new w _
  have hx0 : W.heap[w.heap.size]? = some (.cells #[.int .i64 0, .int .i64 0, .int .i64 0, .int .i64 0, .string ⟨#[]⟩, .slice none 0 0] 53 (0, 0)) := by rw [← hW]; exact heap_alloc_new w _
  have hzW : W.heap.size = w.heap.size + 1 := by rw [← hW]; simp
  have HC := Lib.hid (copied_any (h.below hbW))
  have HB := Lib.hid hbW
  have HX0 := Lib.hid hx0
  have HZ := Lib.hid hzW
  unfold StateP stV at HC ⊢
  obtain ⟨n, hn⟩ : ∃ n, n = s.log.length := ⟨_, rfl⟩
  rw [← hn] at HC ⊢
  generalize s.term = st at *
  generalize s.vote = sv at *
  generalize s.sidx = si at *
  generalize s.sterm = ss at *
  generalize str s.sdata = sd at *
  clear h hW hbW hx0 hzW hn
  go_enter Tryz.func24, Tryz.ntmps24
  go_wp2_with fail
  rw [HW.out]
  go_wp2_with fail
  refine HC.out.mono ?_
  rintro e w2 ⟨A', c', rfl, own, b2⟩
  have y0 : w2.heap[w.heap.size]? = some (.cells #[.int .i64 0, .int .i64 0, .int .i64 0, .int .i64 0, .string ⟨#[]⟩, .slice none 0 0] 53 (0, 0)) := (b2.block _ (by have := HZ.out; omega)).trans HX0.out
  have p0 : w2.cell? ⟨w.heap.size, 0, none⟩ = some (.int .i64 0) := by rw [Lib.cell_of_heap y0]; rfl
  have p1 : w2.cell? ⟨w.heap.size, 1, none⟩ = some (.int .i64 0) := by rw [Lib.cell_of_heap y0]; rfl
  have p2 : w2.cell? ⟨w.heap.size, 2, none⟩ = some (.int .i64 0) := by rw [Lib.cell_of_heap y0]; rfl
  have p3 : w2.cell? ⟨w.heap.size, 3, none⟩ = some (.int .i64 0) := by rw [Lib.cell_of_heap y0]; rfl
  have p4 : w2.cell? ⟨w.heap.size, 4, none⟩ = some (.string ⟨#[]⟩) := by rw [Lib.cell_of_heap y0]; rfl
  have p5 : w2.cell? ⟨w.heap.size, 5, none⟩ = some (.slice none 0 0) := by rw [Lib.cell_of_heap y0]; rfl
  have g0 := Lib.frozen_of_heap y0
  have HO := Lib.hid own
  have HB2 := Lib.hid (HB.out.trans (b2.mono (by have := HZ.out; omega)))
  clear own b2 y0
  go_wp2_with fail
  refine bodyPost_ret (v := .agg #[.int .i64 st, .int .i64 sv, .int .i64 si, .int .i64 ss, .string sd, .slice A' n c']) (by simp [results, Tryz.results24, go_sem, p0, p1, p2, p3, p4, p5]) rfl ⟨A', c', rfl, ?_, ?_⟩
  · refine Fm.own_mono (own_frame HO.out ?_) HB.out.size
    intro k hk
    have hlt := (World.ownsRow.lt HO.out k hk).1
    have hz := HZ.out
    have h0 : k ≠ w.heap.size := by omega
    iterate 6 (rw [Below.heap_setCell _ _ _ k (by exact h0)])
  · exact (((((HB2.out.setCell (Nat.le_refl _) _).setCell (Nat.le_refl _) _).setCell (Nat.le_refl _) _).setCell (Nat.le_refl _) _).setCell (Nat.le_refl _) _).setCell (Nat.le_refl _) _

/-! ### the log is changed -/
theorem slice_fromE {w : World} {A : Option Addr} {c n : Nat} {l : List Ent} (h : EntAt w A c l) (k : Nat) (hn : l.length = n) (h1 : k ≤ n) (hc : n ≤ 10000000) :
    ∃ A', (∀ W : World, (Instr.slice 35 (.slice A n c) (some (.int .i64 (k : Nat))) none none).run Tryz.prog W = .ok (.slice A' (n - k) (c - k)) W) ∧ EntAt w A' (c - k) (l.drop k) := by
  obtain ⟨e1, e2, e3, e4⟩ := h
  have h2 : n ≤ c := by omega
  have hk : (k : Int) ≤ (n : Int) := by omega
  have h0 : (0 : Int) ≤ (k : Int) := by omega
  refine ⟨if c = k then A else A.map (·.add (k * 2)), fun W => ?_, ?_, by omega, ?_, ?_⟩
  · clear e1 e2 e3 e4 hn
    go_simp
  · rw [List.length_drop]; omega
  · intro hA
    split at hA
    · omega
    · cases A with
      | none => have := e3 rfl; omega
      | some a => cases hA
  · intro hne
    have hlk : k < l.length := by
      rcases Nat.lt_or_ge k l.length with q | q
      · exact q
      · exact absurd (List.drop_of_length_le q) hne
    obtain ⟨g, off, rfl, q⟩ := e4 (by intro e; rw [e] at hlk; simp at hlk)
    rw [if_neg (by omega)]
    refine ⟨g, off + k * 2, ?_, fun j u hu => ?_⟩
    · rw [Option.map_some]; congr 1
      unfold Addr.add
      split
      · rename_i e; rw [e]; rfl
      · rfl
    · rw [Nat.add_assoc]
      refine q (k * 2 + j) u ?_
      have : entC (l.drop k) = (entC l).drop (k * 2) := by
        have h3 := entC_append (l.take k) (l.drop k)
        rw [List.take_append_drop, ← entC_take] at h3
        have h4 : ((entC l).take (k * 2)).length = k * 2 := by rw [List.length_take, entC_len]; omega
        have h5 := congrArg (List.drop (k * 2)) h3
        rw [List.drop_append_of_le_length (by omega), List.drop_of_length_le (l := (entC l).take (k * 2)) (by omega), List.nil_append] at h5
        exact h5.symm
      rw [this, List.getElem?_drop] at hu
      exact hu
end Go.Proofs.YtjcikhacekmcfaaGreatDoor
namespace Go.Proofs.YtjcikhacekmcfaaGreatDoor
open Go.RowKit
open PlainDisk (File Disk)
open PWal (Say)
set_option linter.unusedVariables false
set_option maxRecDepth 100000

/-! ### votes -/
theorem mayVote_any (n : Int) (w : World) : Calls Tryz.prog 79 #[.int .i64 n] w fun e w' => e = .returned (.bool (PWal.mayVote n)) ∧ w = w' := by
  have h1 : PWal.mayVote n = (decide (-1 ≤ n) && decide (n < 7)) := rfl
  rw [h1]
  by_cases a : -1 ≤ n
  · by_cases c : n < 7
    · rw [show (decide (-1 ≤ n) && decide (n < 7)) = true from by simp [a, c]]
      go_enter Tryz.func79, Tryz.ntmps79
      go_wp2_with fail
      go_ret
      exact ⟨rfl, rfl⟩
    · rw [show (decide (-1 ≤ n) && decide (n < 7)) = false from by simp [c]]
      go_enter Tryz.func79, Tryz.ntmps79
      go_wp2_with fail
      go_ret
      exact ⟨by simp, rfl⟩
  · rw [show (decide (-1 ≤ n) && decide (n < 7)) = false from by simp [a]]
    go_enter Tryz.func79, Tryz.ntmps79
    go_wp2_with fail
    go_ret
    exact ⟨by simp, rfl⟩
def VoteOfP (bs : List UInt8) (w : World) (e : Ending) (w' : World) : Prop := Below w.heap.size w w' ∧
  ((∃ t v, PWal.voteOf bs = some (t, v) ∧ e = .returned (.tuple #[.int .i64 t, .int .i64 v, .bool true])) ∨ (PWal.voteOf bs = none ∧ e = .returned (.tuple #[.int .i64 0, .int .i64 0, .bool false])))
theorem vote_two {bs : List UInt8} {s0 s1 : Say} (h : (PWal.parts bs).map PWal.say = [s0, s1]) {n0 n1 : Int} {b0 b1 : Bool} (h0 : asI s0 = (n0, b0)) (h1 : asI s1 = (n1, b1)) :
    PWal.voteOf bs = if b0 = true ∧ b1 = true ∧ 0 ≤ n0 ∧ n0 ≤ 4611686018427387904 ∧ PWal.mayVote n1 = true then some (n0, n1) else none := by
  unfold PWal.voteOf
  rw [h]
  cases s0 <;> simp only [asI, Prod.mk.injEq] at h0 <;> obtain ⟨rfl, rfl⟩ := h0
  · cases s1 <;> simp only [asI, Prod.mk.injEq] at h1 <;> obtain ⟨rfl, rfl⟩ := h1
    · rename_i a b
      by_cases q : 0 ≤ a ∧ a ≤ 4611686018427387904 ∧ PWal.mayVote b = true
      · rw [if_pos (show true = true ∧ true = true ∧ _ from ⟨rfl, rfl, q⟩)]; exact if_pos q
      · rw [if_neg (show ¬ (true = true ∧ true = true ∧ _) from fun r => q r.2.2)]; exact if_neg q
    · rfl
    · rfl
  · rfl
  · rfl
theorem vote_other {bs : List UInt8} (h1 : ((PWal.parts bs).map PWal.say).length ≠ 2) : PWal.voteOf bs = none := by
  unfold PWal.voteOf
  split
  · rename_i q; rw [q] at h1; simp at h1
  · rfl
set_option maxHeartbeats 2000000 in
theorem voteOf_any (bs : List UInt8) (A : Option Addr) (m c : Nat) (w : World) (hb : Fm.BytesAt w w.heap.size A bs) (hn : bs.length = m) (hc : m ≤ c) (hcm : c ≤ 9223372036854775807) : Calls Tryz.prog 86 #[.slice A m c] w (VoteOfP bs w) := by
  have HD := Lib.hid (says_any bs A m c _ hb hn hc hcm)
  have HMV := Lib.hid (fun n W => mayVote_any n W)
  clear hb hn hc hcm
  go_enter Tryz.func86, Tryz.ntmps86
  go_wp2_with fail
  refine HD.out.mono ?_
  rintro e w1 ⟨A1, c1, rfl, own, b1⟩
  have B1 := Lib.hid b1
  clear b1
  by_cases hl2 : ((PWal.parts bs).map PWal.say).length = 2
  · obtain ⟨s0, s1, hs⟩ := two_of hl2
    obtain ⟨n0, b0, ha0⟩ : ∃ n b, asI s0 = (n, b) := ⟨_, _, rfl⟩
    obtain ⟨n1, b1, ha1⟩ : ∃ n b, asI s1 = (n, b) := ⟨_, _, rfl⟩
    have HC := Lib.hid (vote_two hs ha0 ha1)
    have hta := ta_any s0 ha0
    have hta1 := ta_any s1 ha1
    rw [hs] at own ⊢
    obtain ⟨g, rfl, hg, _⟩ := own_at own (i := 0) rfl
    obtain ⟨g', e', hg1, _⟩ := own_at own (i := 1) rfl
    obtain rfl : g = g' := by injection e' with e'; injection e'
    have hgl : g < w1.heap.size := World.block_lt_of_cell? w1 _ hg
    generalize vS s0 = v0 at *
    generalize vS s1 = v1 at *
    clear own hs ha0 ha1 hl2 e'
    cases b0
    · rw [if_neg (by simp)] at HC
      go_wp2_with fail
      refine bodyPost_ret (v := .tuple #[.int .i64 0, .int .i64 0, .bool false]) (by simp [results, Tryz.results86, go_sem]) rfl ⟨B1.out, .inr ⟨HC.out, rfl⟩⟩
    · cases b1
      · rw [if_neg (by simp)] at HC
        go_wp2_with fail
        refine bodyPost_ret (v := .tuple #[.int .i64 0, .int .i64 0, .bool false]) (by simp [results, Tryz.results86, go_sem]) rfl ⟨B1.out, .inr ⟨HC.out, rfl⟩⟩
      · by_cases h0 : n0 < 0
        · rw [if_neg (by omega)] at HC
          go_wp2_with fail
          refine bodyPost_ret (v := .tuple #[.int .i64 0, .int .i64 0, .bool false]) (by simp [results, Tryz.results86, go_sem]) rfl ⟨B1.out, .inr ⟨HC.out, rfl⟩⟩
        · by_cases h4 : 4611686018427387904 < n0
          · rw [if_neg (by omega)] at HC
            have h0' : ¬ n0 < 0 := h0
            go_wp2_with fail
            refine bodyPost_ret (v := .tuple #[.int .i64 0, .int .i64 0, .bool false]) (by simp [results, Tryz.results86, go_sem]) rfl ⟨B1.out, .inr ⟨HC.out, rfl⟩⟩
          · cases hv : PWal.mayVote n1 with
            | false =>
              rw [if_neg (by rw [hv]; simp)] at HC
              have HV := Lib.hid hv
              clear hv
              go_wp2_with fail
              refine (HMV.out _ _).mono ?_
              rintro e w2 ⟨rfl, rfl⟩
              rw [HV.out]
              go_wp2_with fail
              refine bodyPost_ret (v := .tuple #[.int .i64 0, .int .i64 0, .bool false]) (by simp [results, Tryz.results86, go_sem]) rfl ⟨B1.out, .inr ⟨HC.out, rfl⟩⟩
            | true =>
              rw [if_pos ⟨rfl, rfl, by omega, by omega, hv⟩] at HC
              have HV := Lib.hid hv
              clear hv
              go_wp2_with fail
              refine (HMV.out _ _).mono ?_
              rintro e w2 ⟨rfl, rfl⟩
              rw [HV.out]
              go_wp2_with fail
              refine bodyPost_ret (v := .tuple #[.int .i64 n0, .int .i64 n1, .bool true]) (by simp [results, Tryz.results86, go_sem]) rfl ⟨B1.out, .inl ⟨_, _, HC.out, rfl⟩⟩
  · have e3 := vote_other hl2
    have hl2' : ¬ (((PWal.parts bs).map PWal.say).length : Int) = 2 := by omega
    generalize ((PWal.parts bs).map PWal.say).length = L at *
    have E3 := Lib.hid e3
    clear own e3
    go_wp2_with fail
    refine bodyPost_ret (v := .tuple #[.int .i64 0, .int .i64 0, .bool false]) (by simp [results, Tryz.results86, go_sem]) rfl ⟨B1.out, .inr ⟨E3.out, rfl⟩⟩
end Go.Proofs.YtjcikhacekmcfaaGreatDoor
