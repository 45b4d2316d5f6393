import Derived.Test.YtjondekhjalheaaKeepC
namespace Go.Proofs.Ytjondekhjalheaa

theorem putN_b {m : Mem} (hm : m.wf) (x : Nat) (d : ByteArray) (k : Nat) (hk : x + k ≤ 128) (a : Nat) : (m.putN x d k).b a = if x ≤ a ∧ a < x + k ∧ a - x < d.size then d.data.toList.getD (a - x) 0 else m.b a := by
  induction k with
  | zero => rw [if_neg (by omega)]; rfl
  | succ k ih =>
    have h2 := (Mem.putN_wf hm x d k).2
    by_cases hkd : k < d.size
    · have e : (m.putN x d (k + 1)).b a = if a = x + k then d.data.toList.getD k 0 else (m.putN x d k).b a := by
        unfold Mem.b
        rw [putN_byt_lt m x d k hkd, List.getD_eq_getElem?_getD, List.getElem?_set]
        by_cases hx : x + k = a
        · rw [if_pos hx, if_pos (by omega), if_pos hx.symm]; rfl
        · rw [if_neg hx, if_neg (fun h => hx h.symm), List.getD_eq_getElem?_getD]
      rw [e, ih (by omega)]
      by_cases hx : a = x + k
      · subst hx
        rw [if_pos rfl, if_pos (by omega), Nat.add_sub_cancel_left]
      · rw [if_neg hx]
        by_cases h : x ≤ a ∧ a < x + k ∧ a - x < d.size
        · rw [if_pos h, if_pos (by omega)]
        · rw [if_neg h, if_neg (by omega)]
    · have e : (m.putN x d (k + 1)).b a = (m.putN x d k).b a := by
        unfold Mem.b
        simp only [Mem.putN, Mem.put]
        rw [if_neg hkd]
      rw [e, ih (by omega)]
      by_cases h : x ≤ a ∧ a < x + k ∧ a - x < d.size
      · rw [if_pos h, if_pos (by omega)]
      · rw [if_neg h, if_neg (by omega)]

theorem mem_ext {m n : Mem} (hm : m.wf) (hn : n.wf) (hc : ∀ a, a < 128 → m.c a = n.c a) (hb : ∀ a, a < 128 → m.b a = n.b a) : m = n := by
  obtain ⟨c1, b1⟩ := m
  obtain ⟨c2, b2⟩ := n
  obtain ⟨h1, h2⟩ := hm
  obtain ⟨h3, h4⟩ := hn
  dsimp only at h1 h2 h3 h4
  have e1 : c1 = c2 := by
    apply List.ext_getElem (by omega)
    intro i hi1 hi2
    have := hc i (by omega)
    unfold Mem.c at this
    simp only [List.getD_eq_getElem?_getD, List.getElem?_eq_getElem hi1, List.getElem?_eq_getElem hi2, Option.getD_some] at this
    exact this
  have e2 : b1 = b2 := by
    apply List.ext_getElem (by omega)
    intro i hi1 hi2
    have := hb i (by omega)
    unfold Mem.b at this
    simp only [List.getD_eq_getElem?_getD, List.getElem?_eq_getElem hi1, List.getElem?_eq_getElem hi2, Option.getD_some] at this
    exact this
  rw [e1, e2]

/-- noughts where nothing is covered -/
def Mem.clean (m : Mem) : Prop := ∀ a, m.c a = false → m.b a = 0
theorem mem0_clean : mem0.clean := by
  intro a _
  unfold Mem.b mem0
  simp only [List.getD_eq_getElem?_getD, List.getElem?_replicate]
  split <;> rfl
theorem putN_clean {m : Mem} (hm : m.wf) (h : m.clean) (x : Nat) (d : ByteArray) (k : Nat) (hk : x + k ≤ 128) : (m.putN x d k).clean := by
  intro a ha
  rw [putN_c hm x d k hk, Bool.or_eq_false_iff] at ha
  rw [putN_b hm x d k hk, if_neg]
  · exact h a ha.1
  · rintro ⟨h1, h2, _⟩
    have := ha.2
    rw [decide_eq_true h1, decide_eq_true h2] at this
    cases this
theorem step_some {m : Mem} {s : Seg} (hm : m.wf) (hf : s.fits = true) (hfree : ∀ a : Nat, s.covers a = true → m.c a = false) : m.step s = some (m.putS s) := by
  obtain ⟨f1, f2, f3, f4⟩ := (Seg.fits_iff _).1 hf
  unfold Mem.step
  have hfr : m.freeS s = true := by
    unfold Mem.freeS
    rw [freeN_iff hm _ _ _ (by omega)]
    intro i hi
    apply hfree
    unfold Seg.covers
    rw [decide_eq_true (by omega), decide_eq_true (by omega)]; rfl
  rw [hf, hfr]; rfl
theorem fold_clean (l : List Seg) : ∀ {m m1 : Mem}, m.wf → m.clean → l.foldlM Mem.step m = some m1 → m1.clean := by
  induction l with
  | nil => intro m m1 _ hc h; cases h; exact hc
  | cons s r ih =>
    intro m m1 hm hc h
    rw [List.foldlM_cons] at h
    cases hst : m.step s with
    | none => rw [hst] at h; cases h
    | some m2 =>
      rw [hst] at h
      refine ih (Mem.step_wf hm hst) ?_ h
      unfold Mem.step at hst
      split at hst
      · rename_i hx
        cases hst
        simp only [Bool.and_eq_true] at hx
        obtain ⟨f1, f2, f3, f4⟩ := (Seg.fits_iff _).1 hx.1
        exact putN_clean hm hc _ _ _ (by omega)
      · cases hst
theorem layAll_clean {l : List Seg} {m : Mem} (h : layAll l = some m) : m.clean := fold_clean l mem0_wf mem0_clean h

theorem coverN_zero {l : List Seg} {a : Int} (h : ∀ s ∈ l, s.covers a = false) : coverN l a = 0 := by
  unfold coverN
  rw [List.length_eq_zero_iff, List.filter_eq_nil_iff]
  intro s hs; rw [h s hs]; simp
/-- segments one behind the other lay -/
theorem lay_order (P : List Seg) (hf : ∀ s ∈ P, s.fits = true) (ho : P.Pairwise fun s t => s.addr + s.size ≤ t.addr) : ∀ k, k ≤ P.length → ∃ m, layAll (P.take k) = some m := by
  intro k
  induction k with
  | zero => intro _; exact ⟨mem0, rfl⟩
  | succ k ih =>
    intro hk
    obtain ⟨m, hm⟩ := ih (by omega)
    have hlt : k < P.length := by omega
    refine ⟨m.putS P[k], ?_⟩
    rw [layAll_snoc P k hlt m hm]
    refine step_some (layAll_wf hm) (hf _ (List.getElem_mem hlt)) ?_
    intro a ha
    have h1 := coverN_lay hm a
    have h2 : coverN (P.take k) a = 0 := by
      apply coverN_zero
      intro s hs
      obtain ⟨i, hi, rfl⟩ := List.mem_iff_getElem.1 hs
      have hi2 : i < k := by simp at hi; omega
      rw [List.getElem_take]
      have := List.pairwise_iff_getElem.1 ho i k (by omega) hlt hi2
      unfold Seg.covers at ha ⊢
      simp only [Bool.and_eq_true, decide_eq_true_eq] at ha
      rw [Bool.and_eq_false_iff]
      right
      exact decide_eq_false (by omega)
    rw [h2] at h1
    cases hc : m.c a
    · rfl
    · rw [hc] at h1; simp at h1

theorem dataFrom_zero (m : Mem) (e d : Nat) (hd : d ≤ e) (he : e ≤ 128) : ∀ y, dataFrom m e d ≤ y → e ≤ y → y < endFrom m e → m.b y = 0 := by
  refine up_ind (p := fun e => ∀ d, d ≤ e → e ≤ 128 → ∀ y, dataFrom m e d ≤ y → e ≤ y → y < endFrom m e → m.b y = 0) (fun e ih d hd he => ?_) e d hd he
  intro y h1 h2 h3
  by_cases h : e < 128 ∧ m.c e = true
  · rw [dataFrom_go h.1 h.2] at h1
    rw [endFrom_go h.1 h.2] at h3
    by_cases hy : y = e
    · subst hy
      by_cases hb : m.b y = 0
      · exact hb
      · rw [if_neg hb] at h1
        have := (dataFrom_bd m (y + 1) (y + 1) (by omega) (by omega)).1
        omega
    · exact ih h.1 (if m.b e = 0 then d else e + 1) (by split <;> omega) (by omega) y h1 (by omega) h3
  · rw [endFrom_stop h] at h3; omega

theorem runOf_fits {m : Mem} (hm : m.wf) (a : Nat) (ha : a < 128) (hc : m.c a = true) : (runOf m a).fits = true := by
  have h1 := endFrom_le m a (by omega)
  have h2 := endFrom_ge m (a + 1)
  rw [← endFrom_go ha hc] at h2
  have h3 := dataFrom_bd m a a (by omega) (by omega)
  have hsz : (runOf m a).data.size = dataFrom m a a - a := by
    show ((m.byt.drop a).take (dataFrom m a a - a)).toArray.size = _
    rw [List.size_toArray, List.length_take, List.length_drop, hm.2]; omega
  rw [Seg.fits_iff, hsz]
  simp only [runOf]
  omega
theorem runOf_covers (m : Mem) (a x : Nat) : (runOf m a).covers x = (decide (a ≤ x) && decide (x < endFrom m a)) := by
  have h2 := endFrom_ge m a
  unfold Seg.covers runOf
  rw [Bool.eq_iff_iff]
  simp only [Bool.and_eq_true, decide_eq_true_eq]
  omega

theorem fold_b (l : List Seg) : ∀ {m m1 : Mem}, m.wf → m.clean → l.foldlM Mem.step m = some m1 → ∀ a : Nat, (∀ s ∈ l, s.covers a = false) → m1.b a = m.b a := by
  induction l with
  | nil => intro m m1 _ _ h a _; cases h; rfl
  | cons s r ih =>
    intro m m1 hm hc h a hno
    rw [List.foldlM_cons] at h
    cases hst : m.step s with
    | none => rw [hst] at h; cases h
    | some m2 =>
      rw [hst] at h
      have hst' := hst
      unfold Mem.step at hst
      split at hst
      · rename_i hx
        cases hst
        simp only [Bool.and_eq_true] at hx
        obtain ⟨f1, f2, f3, f4⟩ := (Seg.fits_iff _).1 hx.1
        rw [ih (Mem.step_wf hm hst') (putN_clean hm hc _ _ _ (by omega)) h a (fun t ht => hno t (by simp [ht]))]
        unfold Mem.putS
        rw [putN_b hm _ _ _ (by omega), if_neg]
        rintro ⟨h1, h2, _⟩
        have := hno s (by simp)
        unfold Seg.covers at this
        rw [decide_eq_true (by omega), decide_eq_true (by omega)] at this
        cases this
      · cases hst
theorem fold_b_in (l : List Seg) : ∀ {m m1 : Mem}, m.wf → m.clean → l.foldlM Mem.step m = some m1 → ∀ (a : Nat) (s : Seg), s ∈ l → s.covers a = true → m1.b a = s.data.data.toList.getD (a - s.addr.toNat) 0 := by
  induction l with
  | nil => intro m m1 _ _ h a s hs; cases hs
  | cons s r ih =>
    intro m m1 hm hc h a t ht hcv
    have hfold := h
    rw [List.foldlM_cons] at h
    cases hst : m.step s with
    | none => rw [hst] at h; cases h
    | some m2 =>
      rw [hst] at h
      have hst' := hst
      unfold Mem.step at hst
      split at hst
      · rename_i hx
        cases hst
        simp only [Bool.and_eq_true] at hx
        obtain ⟨f1, f2, f3, f4⟩ := (Seg.fits_iff _).1 hx.1
        have hcl2 : (m.putS s).clean := putN_clean hm hc _ _ _ (by omega)
        have hw2 := Mem.step_wf hm hst'
        by_cases hs : s.covers a = true
        · have hone := cover_fold (s :: r) hm hfold a
          have hr0 : coverN r a = 0 := by
            have h3 : coverN (s :: r) a = 1 + coverN r a := by
              unfold coverN
              simp [hs]; omega
            rw [h3] at hone
            split at hone <;> split at hone <;> omega
          have hno : ∀ u ∈ r, u.covers a = false := by
            intro u hu
            unfold coverN at hr0
            rw [List.length_eq_zero_iff, List.filter_eq_nil_iff] at hr0
            have := hr0 u hu
            simpa using this
          have hts : t = s := by
            rcases List.mem_cons.1 ht with e | e
            · exact e
            · rw [hno t e] at hcv; cases hcv
          subst hts
          rw [fold_b r hw2 hcl2 h a hno]
          have hcv2 := hcv
          unfold Seg.covers at hcv2
          simp only [Bool.and_eq_true, decide_eq_true_eq] at hcv2
          have hma : m.c a = false := by
            have := (freeN_iff hm _ t.data _ (by omega)).1 hx.2 (a - t.addr.toNat) (by omega)
            rwa [show t.addr.toNat + (a - t.addr.toNat) = a by omega] at this
          unfold Mem.putS
          rw [putN_b hm _ _ _ (by omega)]
          by_cases hd : a - t.addr.toNat < t.data.size
          · rw [if_pos (by omega)]
          · rw [if_neg (by omega), hc a hma, List.getD_eq_getElem?_getD, List.getElem?_eq_none (by show t.data.size ≤ _; omega)]; rfl
        · have htr : t ∈ r := by
            rcases List.mem_cons.1 ht with e | e
            · rw [e] at hcv; exact absurd hcv hs
            · exact e
          exact ih hw2 hcl2 h a t htr hcv
      · cases hst
theorem lay_b {l : List Seg} {m : Mem} (h : layAll l = some m) (a : Nat) (s : Seg) (hs : s ∈ l) (hc : s.covers a = true) : m.b a = s.data.data.toList.getD (a - s.addr.toNat) 0 := fold_b_in l mem0_wf mem0_clean h a s hs hc

theorem start_of (m : Mem) (a : Nat) (ha : a < 128) (hc : m.c a = true) : ∃ b, b ≤ a ∧ isStart m b = true ∧ a < endFrom m b := by
  induction a with
  | zero =>
    refine ⟨0, Nat.le_refl _, by simp [isStart, hc], ?_⟩
    have h := endFrom_ge m (0 + 1)
    rw [← endFrom_go ha hc] at h; omega
  | succ a ih =>
    cases hst : isStart m (a + 1)
    · have hp : m.c a = true := by
        simp only [isStart, hc, Bool.true_and, Bool.not_eq_false', Bool.and_eq_true, decide_eq_true_eq] at hst
        exact hst.2
      obtain ⟨b, h1, h2, h3⟩ := ih (by omega) hp
      refine ⟨b, by omega, h2, ?_⟩
      have := endFrom_end m b
      rcases Nat.lt_or_ge (a + 1) (endFrom m b) with h | h
      · exact h
      · have e : endFrom m b = a + 1 := by omega
        rw [e] at this
        exact absurd ⟨ha, hc⟩ this
    · refine ⟨a + 1, Nat.le_refl _, hst, ?_⟩
      have h := endFrom_ge m (a + 1 + 1)
      rw [← endFrom_go ha hc] at h; omega

/-- the runs of a picture lay that picture again -/
theorem lay_runs {m : Mem} (hm : m.wf) (hcl : m.clean) : layAll (runsOf m) = some m := by
  have hfit : ∀ s ∈ runsOf m, s.fits = true := by
    intro s hs
    unfold runsOf runsTo at hs
    obtain ⟨a, ha, rfl⟩ := List.mem_map.1 hs
    have h1 := List.mem_filter.1 ha
    have hst := h1.2
    simp only [isStart, Bool.and_eq_true] at hst
    exact runOf_fits hm a (by simpa using h1.1) hst.1
  have hord : (runsOf m).Pairwise fun s t => s.addr + s.size ≤ t.addr := by
    unfold runsOf runsTo
    rw [List.pairwise_map]
    have hp : ((List.range 128).filter (isStart m)).Pairwise (· < ·) := List.Pairwise.filter _ List.pairwise_lt_range
    refine List.Pairwise.imp_of_mem ?_ hp
    intro a b _ hb hab
    have hb' := List.mem_filter.1 hb
    have := start_gap m a b hab hb'.2 (by simpa using hb'.1)
    simp only [runOf]
    omega
  obtain ⟨m1, hm1⟩ := lay_order (runsOf m) hfit hord (runsOf m).length (Nat.le_refl _)
  rw [List.take_of_length_le (Nat.le_refl _)] at hm1
  have hw1 := layAll_wf hm1
  have hcl1 := layAll_clean hm1
  have hcov : ∀ a, a < 128 → m1.c a = m.c a := by
    intro a ha
    have h1 := coverN_lay hm1 a
    cases hc : m.c a
    · have : coverN (runsOf m) a = 0 := by
        apply coverN_zero
        intro s hs
        unfold runsOf runsTo at hs
        obtain ⟨b, hb, rfl⟩ := List.mem_map.1 hs
        rw [runOf_covers, Bool.and_eq_false_iff]
        by_cases hba : b ≤ a
        · right
          apply decide_eq_false
          intro hlt
          rw [endFrom_cov m b a hba hlt] at hc; cases hc
        · left; exact decide_eq_false hba
      rw [this] at h1
      cases hc1 : m1.c a
      · rfl
      · rw [hc1] at h1; simp at h1
    · obtain ⟨b, hb1, hb2, hb3⟩ := start_of m a ha hc
      have hmem : runOf m b ∈ runsOf m := by
        unfold runsOf runsTo
        exact List.mem_map.2 ⟨b, List.mem_filter.2 ⟨by simp; omega, hb2⟩, rfl⟩
      cases hc1 : m1.c a
      · rw [hc1] at h1
        have h0 : coverN (runsOf m) a = 0 := by simpa using h1
        unfold coverN at h0
        rw [List.length_eq_zero_iff, List.filter_eq_nil_iff] at h0
        have := h0 _ hmem
        rw [runOf_covers, decide_eq_true hb1, decide_eq_true hb3] at this
        exact absurd rfl this
      · rfl
  rw [hm1]
  congr 1
  apply mem_ext hw1 hm hcov
  intro a ha
  cases hc : m.c a
  · rw [hcl a hc, hcl1 a (by rw [hcov a ha, hc])]
  · obtain ⟨b, hb1, hb2, hb3⟩ := start_of m a ha hc
    have hmem : runOf m b ∈ runsOf m := by
      unfold runsOf runsTo
      exact List.mem_map.2 ⟨b, List.mem_filter.2 ⟨by simp; omega, hb2⟩, rfl⟩
    rw [lay_b hm1 a _ hmem (by rw [runOf_covers, decide_eq_true hb1, decide_eq_true hb3]; rfl)]
    show (((m.byt.drop b).take (dataFrom m b b - b)).toArray.toList).getD (a - b) 0 = m.b a
    have hd := dataFrom_bd m b b (Nat.le_refl _) (by omega)
    simp only [List.getD_eq_getElem?_getD]
    rw [List.getElem?_take]
    by_cases hlt : a - b < dataFrom m b b - b
    · rw [if_pos hlt, List.getElem?_drop, show b + (a - b) = a by omega]
      unfold Mem.b
      rw [List.getD_eq_getElem?_getD]
    · rw [if_neg hlt, dataFrom_zero m b b (Nat.le_refl _) (by omega) a (by omega) hb1 hb3]; rfl
end Go.Proofs.Ytjondekhjalheaa
