import Derived.Test.YtjondekhjalheaaKeepB
namespace Go.Proofs.Ytjondekhjalheaa

theorem set_c (m : Mem) (x : Nat) (byt : List UInt8) (a : Nat) (h : m.cov.length = 128) (hx : x < 128) : (⟨m.cov.set x true, byt⟩ : Mem).c a = (decide (a = x) || m.c a) := by
  unfold Mem.c
  rw [List.getD_eq_getElem?_getD, List.getD_eq_getElem?_getD, List.getElem?_set]
  by_cases e : x = a
  · subst e; rw [if_pos rfl, if_pos (by omega)]; simp
  · rw [if_neg e, decide_eq_false (fun h => e h.symm)]; simp
theorem putN_c {m : Mem} (hm : m.wf) (x : Nat) (d : ByteArray) (k : Nat) (hk : x + k ≤ 128) (a : Nat) : (m.putN x d k).c a = (m.c a || (decide (x ≤ a) && decide (a < x + k))) := by
  induction k with
  | zero =>
    show m.c a = _
    have : (decide (x ≤ a) && decide (a < x + 0)) = false := by
      by_cases h : x ≤ a
      · rw [decide_eq_false (show ¬ a < x + 0 by omega)]; simp
      · rw [decide_eq_false h]; simp
    rw [this]; simp
  | succ k ih =>
    have h1 := (Mem.putN_wf hm x d k).1
    show (⟨(m.putN x d k).cov.set (x + k) true, _⟩ : Mem).c a = _
    rw [set_c _ _ _ _ h1 (by omega), ih (by omega)]
    rw [Bool.eq_iff_iff]
    simp only [Bool.or_eq_true, Bool.and_eq_true, decide_eq_true_eq]
    constructor
    · rintro (h | h | h)
      · exact Or.inr (by omega)
      · exact Or.inl h
      · exact Or.inr (by omega)
    · rintro (h | h)
      · exact Or.inr (Or.inl h)
      · by_cases e : a = x + k
        · exact Or.inl e
        · exact Or.inr (Or.inr (by omega))
theorem freeN_iff {m : Mem} (hm : m.wf) (x : Nat) (d : ByteArray) (k : Nat) (hk : x + k ≤ 128) : m.freeN x d k = true ↔ ∀ i, i < k → m.c (x + i) = false := by
  induction k with
  | zero => simp [Mem.freeN]
  | succ k ih =>
    simp only [Mem.freeN, Bool.and_eq_true, Bool.not_eq_true', ih (by omega)]
    rw [putN_c hm x d k (by omega)]
    have e : (decide (x ≤ x + k) && decide (x + k < x + k)) = false := by rw [decide_eq_false (show ¬ x + k < x + k by omega)]; simp
    rw [e, Bool.or_false]
    constructor
    · rintro ⟨h1, h2⟩ i hi
      by_cases e : i = k
      · subst e; exact h2
      · exact h1 i (by omega)
    · intro h
      exact ⟨fun i hi => h i (by omega), h k (by omega)⟩

theorem cover_step {m m1 : Mem} {s : Seg} (hm : m.wf) (h : m.step s = some m1) (a : Nat) : (if m1.c a then 1 else 0) = (if m.c a then 1 else 0) + (if s.covers a then 1 else 0) := by
  unfold Mem.step at h
  split at h
  · rename_i hc
    cases h
    simp only [Bool.and_eq_true] at hc
    obtain ⟨hf, hfr⟩ := hc
    obtain ⟨f1, f2, f3, f4⟩ := (Seg.fits_iff _).1 hf
    have hx : s.addr.toNat + s.size.toNat ≤ 128 := by omega
    have hfree := (freeN_iff hm _ s.data _ hx).1 hfr
    unfold Mem.putS
    rw [putN_c hm _ _ _ hx]
    have hcv : s.covers (a : Int) = (decide (s.addr.toNat ≤ a) && decide (a < s.addr.toNat + s.size.toNat)) := by
      unfold Seg.covers
      rw [Bool.eq_iff_iff]
      simp only [Bool.and_eq_true, decide_eq_true_eq]
      omega
    rw [hcv]
    by_cases hin : s.addr.toNat ≤ a ∧ a < s.addr.toNat + s.size.toNat
    · have hma : m.c a = false := by
        have := hfree (a - s.addr.toNat) (by omega)
        rwa [show s.addr.toNat + (a - s.addr.toNat) = a by omega] at this
      rw [hma, decide_eq_true hin.1, decide_eq_true hin.2]; rfl
    · have hz : (decide (s.addr.toNat ≤ a) && decide (a < s.addr.toNat + s.size.toNat)) = false := by
        rw [Bool.eq_false_iff]; intro h; simp only [Bool.and_eq_true, decide_eq_true_eq] at h; exact hin h
      rw [hz]; simp
  · cases h
theorem cover_fold (l : List Seg) : ∀ {m m1 : Mem}, m.wf → l.foldlM Mem.step m = some m1 → ∀ a : Nat, (if m1.c a then 1 else 0) = (if m.c a then 1 else 0) + coverN l a := by
  induction l with
  | nil => intro m m1 hm h a; cases h; simp [coverN]
  | cons s r ih =>
    intro m m1 hm h a
    rw [List.foldlM_cons] at h
    cases hst : m.step s with
    | none => rw [hst] at h; cases h
    | some m2 =>
      rw [hst] at h
      have h1 := ih (Mem.step_wf hm hst) h a
      have h2 := cover_step hm hst a
      have h3 : coverN (s :: r) a = (if s.covers a then 1 else 0) + coverN r a := by
        unfold coverN
        by_cases hc : s.covers a
        · simp [hc]; omega
        · simp [hc]
      omega
theorem mem0_c (a : Nat) : mem0.c a = false := by
  unfold Mem.c mem0
  simp only [List.getD_eq_getElem?_getD, List.getElem?_replicate]
  split <;> rfl
theorem coverN_lay {l : List Seg} {m : Mem} (h : layAll l = some m) (a : Nat) : coverN l a = if m.c a then 1 else 0 := by
  have := cover_fold l mem0_wf h a
  rw [mem0_c] at this
  simp at this
  omega

theorem dataFrom_last (m : Mem) (e d : Nat) (he : e ≤ 128) : dataFrom m e d = d ∨ (e < dataFrom m e d ∧ m.b (dataFrom m e d - 1) ≠ 0) := by
  refine up_ind (p := fun e => ∀ d, e ≤ 128 → (dataFrom m e d = d ∨ (e < dataFrom m e d ∧ m.b (dataFrom m e d - 1) ≠ 0))) (fun e ih d he => ?_) e d he
  show dataFrom m e d = d ∨ (e < dataFrom m e d ∧ m.b (dataFrom m e d - 1) ≠ 0)
  by_cases h : e < 128 ∧ m.c e = true
  · rw [dataFrom_go h.1 h.2]
    rcases ih h.1 (if m.b e = 0 then d else e + 1) (by omega) with h1 | h1
    · rw [h1]
      split
      · exact Or.inl rfl
      · rename_i hb; exact Or.inr ⟨by omega, by simpa using hb⟩
    · exact Or.inr ⟨by omega, h1.2⟩
  · rw [dataFrom_stop h]; exact Or.inl rfl

theorem runOf_last {m : Mem} (hm : m.wf) (a : Nat) (ha : a < 128) (h : 0 < (runOf m a).data.size) : (runOf m a).data[(runOf m a).data.size - 1] ≠ 0 := by
  have hb := dataFrom_bd m a a (by omega) (by omega)
  have he := endFrom_le m a (by omega)
  have hsz : (runOf m a).data.size = dataFrom m a a - a := by
    show ((m.byt.drop a).take (dataFrom m a a - a)).toArray.size = _
    rw [List.size_toArray, List.length_take, List.length_drop, hm.2]; omega
  rcases dataFrom_last m a a (by omega) with h1 | h1
  · omega
  · have e : (runOf m a).data[(runOf m a).data.size - 1] = m.b (dataFrom m a a - 1) := by
      rw [← ba_getD (runOf m a).data _ (by omega), hsz]
      show (((m.byt.drop a).take (dataFrom m a a - a)).toArray.toList).getD _ 0 = _
      simp only [List.getD_eq_getElem?_getD, Mem.b]
      rw [List.getElem?_take, if_pos (by omega), List.getElem?_drop, show a + (dataFrom m a a - a - 1) = dataFrom m a a - 1 by omega]
    rw [e]; exact h1.2

theorem start_gap (m : Mem) (a b : Nat) (hab : a < b) (hb : isStart m b = true) (hb2 : b < 128) : endFrom m a < b := by
  have hc : m.c (b - 1) = false := by
    simp only [isStart, Bool.and_eq_true, Bool.not_eq_true', Bool.and_eq_false_iff, decide_eq_false_iff_not] at hb
    rcases hb.2 with h | h
    · omega
    · exact h
  rcases Nat.lt_or_ge (endFrom m a) b with h | h
  · exact h
  · have := endFrom_cov m a (b - 1) (by omega) (by omega)
    rw [hc] at this; cases this

theorem runsOf_gap (m : Mem) : ∀ i (h : i + 1 < (runsOf m).length), (runsOf m)[i].addr + (runsOf m)[i].size < (runsOf m)[i + 1].addr := by
  intro i h
  have hlen : (runsOf m).length = ((List.range 128).filter (isStart m)).length := by simp [runsOf, runsTo]
  have hp : ((List.range 128).filter (isStart m)).Pairwise (· < ·) := List.Pairwise.filter _ List.pairwise_lt_range
  have hget : ∀ j (hj : j < (runsOf m).length), (runsOf m)[j] = runOf m (((List.range 128).filter (isStart m))[j]'(by omega)) := by
    intro j hj
    simp [runsOf, runsTo]
  have hmem : ∀ j (hj : j < ((List.range 128).filter (isStart m)).length), isStart m (((List.range 128).filter (isStart m))[j]) = true ∧ ((List.range 128).filter (isStart m))[j] < 128 := by
    intro j hj
    have := List.mem_filter.1 (List.getElem_mem hj)
    exact ⟨this.2, by simpa using this.1⟩
  rw [hget i (by omega), hget (i + 1) h]
  have hlt : ((List.range 128).filter (isStart m))[i]'(by omega) < ((List.range 128).filter (isStart m))[i + 1]'(by omega) := List.pairwise_iff_getElem.1 hp i (i + 1) (by omega) (by omega) (by omega)
  have hst := hmem (i + 1) (by omega)
  have := start_gap m _ _ hlt hst.1 hst.2
  simp only [runOf]
  omega

theorem runsOK_of {m : Mem} (hm : m.wf) (hf : ∀ s ∈ runsOf m, s.fits = true) : RunsOK (runsOf m) := by
  refine ⟨hf, ?_, runsOf_gap m⟩
  intro s hs h
  unfold runsOf runsTo at hs
  obtain ⟨a, ha, rfl⟩ := List.mem_map.1 hs
  exact runOf_last hm a (by have := (List.mem_filter.1 ha).1; simpa using this) h

/-- what an image that is one tells of its runs -/
theorem unpack_runs {l : List UInt8} {v e : Int} {rs : List Seg} (h : unpackM l = some (v, e, rs)) : ∃ m, layAll rs = some m ∧ m.wf ∧ rs = runsOf m ∧ drawAll rs = (m, true) ∧ (∀ s ∈ rs, s.fits = true) ∧ packM v e rs = (l, 0) ∧ 0 ≤ e ∧ e < 128 ∧ m.c e.toNat = true := by
  obtain ⟨m, h1, h2, h3, h4⟩ := unpack_mem h
  unfold unpackM at h
  split at h
  · cases h
  · rename_i v' e' rs' hd
    split at h
    · rename_i hp
      simp only [Option.some.injEq, Prod.mk.injEq] at h
      obtain ⟨rfl, rfl, rfl⟩ := h
      obtain ⟨m', hv0, hv1, _, hm', he0, he1, hce, hl, hlen⟩ := pack_ok hp
      rw [h1] at hm'
      cases hm'
      obtain ⟨d1, _⟩ := dec_text v' e' (runsOf m) (runsOf_small h2) (runsTo_length m 128) hv0 hv1 he0 he1 (by rw [← hl]; exact hlen)
      rw [← hl, hd] at d1
      simp only [Option.some.injEq, Prod.mk.injEq, true_and] at d1
      exact ⟨m, h1, h2, d1, h4, h3, hp, he0, he1, hce⟩
    · cases h
end Go.Proofs.Ytjondekhjalheaa
