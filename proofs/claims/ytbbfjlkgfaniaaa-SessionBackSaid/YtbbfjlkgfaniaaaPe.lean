import Derived.Test.YtbbfjlkgfaniaaaTl
import Derived.Test.YtbbfjlkgfaniaaaPd
namespace Go.Proofs.Ytbbfjlkgfaniaaa.SP
set_option linter.unusedVariables false
open Go.Proofs.Ytbbfjlkgfaniaaa.Wi.Pl (It oks deps cnts longs goods dec_iff)
open Go.Proofs.Ytbbfjlkgfaniaaa.Nm (str)
/-! ### what is saved is loaded, plain -/
theorem resR_pack {r : Rp} (hp : mayP r = true) (hi : RpI r) : Wi.resR (packS r).data.toList = some (r.e, r.s, r.a, r.b, r.c, r.n) := by
  have hm : Wi.mayR r.e r.s = true := hp
  obtain ⟨q1, q2, _⟩ := Wi.mayR_size hm
  rw [Wi.resR_iff]
  refine ⟨hm, ⟨by omega, by omega⟩, hi.a, hi.b, hi.c, hi.n, ?_⟩
  unfold packS Wi.packR
  rw [if_pos hm]
  rfl
theorem sesP_sesI {s : Ses} (hp : mayP s.r = true) (hi : RpI s.r) : sesP (sesI s) = s ∧ okP (sesI s) = true := by
  have h := resR_pack hp hi
  have e : txt (part (sesI s) 3) = (packS s.r).data.toList := rfl
  refine ⟨?_, by unfold okP; rw [e, h]; rfl⟩
  unfold sesP
  rw [e, h]
  rfl
theorem mayB_ok {T : Tb} {s : Ses} (hT : Inv T) (h : SInv T s) : mayB T.clk T.lst s = true := by
  have hc := hT.c2
  have hu2 := h.u2
  have hM : M = 4611686018427387904 := rfl
  have hs2 := h.sq2
  unfold mayB isIdx
  simp only [Bool.and_eq_true, Bool.or_eq_true, decide_eq_true_eq]
  refine ⟨h.id2, ⟨h.u1, by omega⟩, h.u2, ⟨h.sq1, by omega⟩, ?_⟩
  by_cases hz : s.seq = 0
  · right
    rw [h.z hz]
    exact Wi.eqR_iff.2 ⟨rfl, rfl, ⟨rfl, rfl, rfl⟩, rfl⟩
  · left
    have := h.sq1
    omega
theorem resA_save {T : Tb} (hT : Inv T) : ∀ (L acc : List Ses), acc ++ L = T.L → resA T.clk T.lst acc (L.map sesI) = some T.L
  | [], acc, h => by rw [← h]; simp [resA]
  | s :: r, acc, h => by
    have hs : SInv T s := hT.all s (by rw [← h]; simp)
    obtain ⟨e1, e2⟩ := sesP_sesI hs.p hs.i
    have hl : lastId acc < s.id := by
      rcases List.eq_nil_or_concat acc with e | ⟨a, u, e⟩
      · subst e
        have := hs.id1
        show (0 : Int) < s.id
        omega
      · subst e
        rw [List.concat_eq_append, lastId_snoc]
        have := hT.srt
        rw [← h, List.pairwise_append] at this
        exact this.2.2 u (by simp) s (by simp)
    have hc : canP T.clk T.lst acc (sesI s) = true := by
      unfold canP
      rw [e1, e2, mayB_ok hT hs]
      simpa using hl
    rw [List.map_cons, resA, if_pos hc, e1]
    exact resA_save hT r (acc ++ [s]) (by rw [List.append_assoc]; exact h)
theorem restore_save {T : Tb} (hT : Inv T) : restore (tabI T) = some T := by
  have h1 : clkI (tabI T) = T.clk := rfl
  have hl := hT.l1
  have hl2 := hT.l2
  have hc2 := hT.c2
  have hM : M = 4611686018427387904 := rfl
  have h2 : lstI (tabI T) = T.lst := by
    show IntKind.i64.wrap (T.lst + 1 - 1) = T.lst
    rw [IntWalk.i64_in _ ⟨by omega, by omega⟩]
    omega
  have h3 : els (part (tabI T) 2) = T.L.map sesI := rfl
  have hb : headB (tabI T) = true := by
    unfold headB isIdx
    rw [h1, h2, h3]
    simp only [Bool.and_eq_true, decide_eq_true_eq, List.length_map]
    exact ⟨⟨hT.c1, by omega⟩, ⟨hl, by omega⟩, hT.len⟩
  unfold restore
  rw [if_pos hb, h1, h2, h3, resA_save hT T.L [] rfl]
  rfl
theorem pack_len {r : Rp} (hp : mayP r = true) : (packS r).size ≤ 4096 := (pack_ok hp).2
theorem ses_all : ∀ (L : List Ses), (∀ s ∈ L, (Wi.InR s.id ∧ Wi.InR s.seq ∧ Wi.InR s.u) ∧ (packS s.r).size ≤ 4096) → oks (L.map sesI) = true ∧ deps (L.map sesI) ≤ 2 ∧ cnts (L.map sesI) = 5 * L.length ∧ longs (L.map sesI) = false ∧ goods (L.map sesI) = true
  | [], _ => by simp [oks, deps, cnts, longs, goods]
  | s :: r, h => by
    obtain ⟨i1, i2, i3, i4, i5⟩ := ses_all r fun u hu => h u (List.mem_cons_of_mem _ hu)
    obtain ⟨⟨⟨a1, a2⟩, ⟨b1, b2⟩, ⟨c1, c2⟩⟩, hs⟩ := h s List.mem_cons_self
    refine ⟨?_, ?_, ?_, ?_, ?_⟩
    · simp [sesI, Wi.nIt, Wi.sIt, It.ok, oks, Wi.Pl.form, Wi.zero_size, *]
    · simp only [List.map_cons, deps, sesI, Wi.nIt, Wi.sIt, It.dep]
      omega
    · simp only [List.map_cons, cnts, sesI, Wi.nIt, Wi.sIt, It.cnt, i3, List.length_cons]
      omega
    · simp [sesI, Wi.nIt, Wi.sIt, It.long, longs, i4]
      omega
    · simp [sesI, Wi.nIt, Wi.sIt, It.good, goods, Wi.Pl.form, Wi.zero_size, i5]
theorem load_save {T : Tb} (hT : Inv T) : SP.load (save T).data.toList = some T ∧ (save T).data.toList.length ≤ 17203200 := by
  have hl := hT.l1
  have hl2 := hT.l2
  have hc1 := hT.c1
  have hc2 := hT.c2
  have hM : M = 4611686018427387904 := rfl
  have hall : ∀ s ∈ T.L, (Wi.InR s.id ∧ Wi.InR s.seq ∧ Wi.InR s.u) ∧ (packS s.r).size ≤ 4096 := fun s hs => by
    have q := hT.all s hs
    have q1 := q.id1
    have q2 := q.id2
    have q3 := q.sq1
    have q4 := q.sq2
    have q5 := q.u1
    have q6 := q.u2
    exact ⟨⟨⟨by omega, by omega⟩, ⟨by omega, by omega⟩, ⟨by omega, by omega⟩⟩, pack_len q.p⟩
  obtain ⟨i1, i2, i3, i4, i5⟩ := ses_all T.L hall
  have hlen := hT.len
  have ck : -9223372036854775808 ≤ T.clk ∧ T.clk ≤ 9223372036854775807 := ⟨by omega, by omega⟩
  have cl : -9223372036854775808 ≤ T.lst + 1 ∧ T.lst + 1 ≤ 9223372036854775807 := ⟨by omega, by omega⟩
  have hok : (tabI T).ok = true := by
    have : T.L.length < 18446744073709551616 := by omega
    simp [tabI, Wi.nIt, It.ok, oks, Wi.Pl.form, Wi.zero_size, *]
  have hdep : (tabI T).dep ≤ 12 := by
    simp only [tabI, Wi.nIt, It.dep, deps]
    omega
  have hcnt : (tabI T).cnt ≤ 4096 := by
    simp only [tabI, Wi.nIt, It.cnt, cnts, i3]
    omega
  have herr : Wi.errOf (tabI T) = 0 := Wi.errOf_of hcnt hdep (by simp [tabI, Wi.nIt, It.long, longs, i4]) (by simp [tabI, Wi.nIt, It.good, goods, Wi.Pl.form, Wi.zero_size, i5])
  have hsv : save T = str (tabI T).enc := by
    unfold save Wi.txt
    rw [if_pos herr]
  have hdt : (save T).data.toList = (tabI T).enc := by rw [hsv]; rfl
  have hd : Wi.Pl.dec (tabI T).enc = some (tabI T) := (dec_iff _ _).2 ⟨hok, hdep, hcnt, rfl⟩
  refine ⟨?_, by rw [hdt]; exact Wi.enc_small herr⟩
  rw [hdt]
  unfold SP.load
  rw [hd]
  dsimp only
  rw [restore_save hT]
  dsimp only
  rw [if_pos hsv]
end Go.Proofs.Ytbbfjlkgfaniaaa.SP
