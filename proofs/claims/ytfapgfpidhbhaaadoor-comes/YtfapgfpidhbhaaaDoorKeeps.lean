import Derived.Test.YtfapgfpidhbhaaaDoorLds
namespace Go.Proofs.YtfapgfpidhbhaaaDoor
open Go.RowKit

def Seg.covers (s : Seg) (n : Int) : Bool := decide (s.addr ≤ n) && decide (n < s.addr + s.size)
def coverN (l : List Seg) (n : Int) : Nat := (l.filter (·.covers n)).length
theorem coverN_snoc (l : List Seg) (n : Int) (k : Nat) (h : k < l.length) : coverN (l.take (k + 1)) n = coverN (l.take k) n + (if l[k].covers n then 1 else 0) := by
  unfold coverN
  rw [List.take_succ_eq_append_getElem h, List.filter_append, List.length_append]
  by_cases hc : l[k].covers n <;> simp [hc]
theorem coverN_le (l : List Seg) (n : Int) : coverN l n ≤ l.length := List.length_filter_le _ _

end Go.Proofs.YtfapgfpidhbhaaaDoor

namespace Go.Proofs.YtfapgfpidhbhaaaDoor
open Go.RowKit

theorem putN_byt_ge (m : Mem) (a : Nat) (d : ByteArray) (k : Nat) (h : d.size ≤ k) : (m.putN a d k).byt = (m.putN a d d.size).byt := by
  induction k with
  | zero => have : d.size = 0 := by omega
            rw [this]
  | succ k ih =>
    by_cases e : d.size = k + 1
    · rw [e]
    · simp only [Mem.putN, Mem.put]
      rw [if_neg (by omega)]
      exact ih (by omega)
theorem putN_byt_lt (m : Mem) (a : Nat) (d : ByteArray) (k : Nat) (h : k < d.size) : (m.putN a d (k + 1)).byt = (m.putN a d k).byt.set (a + k) (d.data.toList.getD k 0) := by
  simp only [Mem.putN, Mem.put]
  rw [if_pos h]

/-- runs: in rising order, gaps between, no nought at the end of the data -/
structure RunsOK (l : List Seg) : Prop where
  fit : ∀ s ∈ l, s.fits = true
  last : ∀ s ∈ l, ∀ h : 0 < s.data.size, s.data[s.data.size - 1] ≠ 0
  gap : ∀ i (h : i + 1 < l.length), l[i].addr + l[i].size < l[i + 1].addr

end Go.Proofs.YtfapgfpidhbhaaaDoor

namespace Go.Proofs.YtfapgfpidhbhaaaDoor

theorem set_c (m : Mem) (x : Nat) (byt : List UInt8) (a : Nat) (h : m.cov.length = 128) (hx : x < 128) : (⟨m.cov.set x true, byt⟩ : Mem).c a = (decide (a = x) || m.c a) := by
  unfold Mem.c
  rw [List.getD_eq_getElem?_getD, List.getD_eq_getElem?_getD, List.getElem?_set]
  by_cases e : x = a
  · subst e; rw [if_pos rfl, if_pos (by omega)]; simp
  · rw [if_neg e, decide_eq_false (fun h => e h.symm)]; simp
theorem putN_c {m : Mem} (hm : m.wf) (x : Nat) (d : ByteArray) (k : Nat) (hk : x + k ≤ 128) (a : Nat) : (m.putN x d k).c a = (m.c a || (decide (x ≤ a) && decide (a < x + k))) := by
  induction k with
  | zero =>
    show m.c a = _
    have : (decide (x ≤ a) && decide (a < x + 0)) = false := by
      by_cases h : x ≤ a
      · rw [decide_eq_false (show ¬ a < x + 0 by omega)]; simp
      · rw [decide_eq_false h]; simp
    rw [this]; simp
  | succ k ih =>
    have h1 := (Mem.putN_wf hm x d k).1
    show (⟨(m.putN x d k).cov.set (x + k) true, _⟩ : Mem).c a = _
    rw [set_c _ _ _ _ h1 (by omega), ih (by omega)]
    rw [Bool.eq_iff_iff]
    simp only [Bool.or_eq_true, Bool.and_eq_true, decide_eq_true_eq]
    constructor
    · rintro (h | h | h)
      · exact Or.inr (by omega)
      · exact Or.inl h
      · exact Or.inr (by omega)
    · rintro (h | h)
      · exact Or.inr (Or.inl h)
      · by_cases e : a = x + k
        · exact Or.inl e
        · exact Or.inr (Or.inr (by omega))
theorem freeN_iff {m : Mem} (hm : m.wf) (x : Nat) (d : ByteArray) (k : Nat) (hk : x + k ≤ 128) : m.freeN x d k = true ↔ ∀ i, i < k → m.c (x + i) = false := by
  induction k with
  | zero => simp [Mem.freeN]
  | succ k ih =>
    simp only [Mem.freeN, Bool.and_eq_true, Bool.not_eq_true', ih (by omega)]
    rw [putN_c hm x d k (by omega)]
    have e : (decide (x ≤ x + k) && decide (x + k < x + k)) = false := by rw [decide_eq_false (show ¬ x + k < x + k by omega)]; simp
    rw [e, Bool.or_false]
    constructor
    · rintro ⟨h1, h2⟩ i hi
      by_cases e : i = k
      · subst e; exact h2
      · exact h1 i (by omega)
    · intro h
      exact ⟨fun i hi => h i (by omega), h k (by omega)⟩

theorem cover_step {m m1 : Mem} {s : Seg} (hm : m.wf) (h : m.step s = some m1) (a : Nat) : (if m1.c a then 1 else 0) = (if m.c a then 1 else 0) + (if s.covers a then 1 else 0) := by
  unfold Mem.step at h
  split at h
  · rename_i hc
    cases h
    simp only [Bool.and_eq_true] at hc
    obtain ⟨hf, hfr⟩ := hc
    obtain ⟨f1, f2, f3, f4⟩ := (Seg.fits_iff _).1 hf
    have hx : s.addr.toNat + s.size.toNat ≤ 128 := by omega
    have hfree := (freeN_iff hm _ s.data _ hx).1 hfr
    unfold Mem.putS
    rw [putN_c hm _ _ _ hx]
    have hcv : s.covers (a : Int) = (decide (s.addr.toNat ≤ a) && decide (a < s.addr.toNat + s.size.toNat)) := by
      unfold Seg.covers
      rw [Bool.eq_iff_iff]
      simp only [Bool.and_eq_true, decide_eq_true_eq]
      omega
    rw [hcv]
    by_cases hin : s.addr.toNat ≤ a ∧ a < s.addr.toNat + s.size.toNat
    · have hma : m.c a = false := by
        have := hfree (a - s.addr.toNat) (by omega)
        rwa [show s.addr.toNat + (a - s.addr.toNat) = a by omega] at this
      rw [hma, decide_eq_true hin.1, decide_eq_true hin.2]; rfl
    · have hz : (decide (s.addr.toNat ≤ a) && decide (a < s.addr.toNat + s.size.toNat)) = false := by
        rw [Bool.eq_false_iff]; intro h; simp only [Bool.and_eq_true, decide_eq_true_eq] at h; exact hin h
      rw [hz]; simp
  · cases h
theorem cover_fold (l : List Seg) : ∀ {m m1 : Mem}, m.wf → l.foldlM Mem.step m = some m1 → ∀ a : Nat, (if m1.c a then 1 else 0) = (if m.c a then 1 else 0) + coverN l a := by
  induction l with
  | nil => intro m m1 hm h a; cases h; simp [coverN]
  | cons s r ih =>
    intro m m1 hm h a
    rw [List.foldlM_cons] at h
    cases hst : m.step s with
    | none => rw [hst] at h; cases h
    | some m2 =>
      rw [hst] at h
      have h1 := ih (Mem.step_wf hm hst) h a
      have h2 := cover_step hm hst a
      have h3 : coverN (s :: r) a = (if s.covers a then 1 else 0) + coverN r a := by
        unfold coverN
        by_cases hc : s.covers a
        · simp [hc]; omega
        · simp [hc]
      omega
theorem mem0_c (a : Nat) : mem0.c a = false := by
  unfold Mem.c mem0
  simp only [List.getD_eq_getElem?_getD, List.getElem?_replicate]
  split <;> rfl
theorem coverN_lay {l : List Seg} {m : Mem} (h : layAll l = some m) (a : Nat) : coverN l a = if m.c a then 1 else 0 := by
  have := cover_fold l mem0_wf h a
  rw [mem0_c] at this
  simp at this
  omega

theorem dataFrom_last (m : Mem) (e d : Nat) (he : e ≤ 128) : dataFrom m e d = d ∨ (e < dataFrom m e d ∧ m.b (dataFrom m e d - 1) ≠ 0) := by
  refine up_ind (p := fun e => ∀ d, e ≤ 128 → (dataFrom m e d = d ∨ (e < dataFrom m e d ∧ m.b (dataFrom m e d - 1) ≠ 0))) (fun e ih d he => ?_) e d he
  show dataFrom m e d = d ∨ (e < dataFrom m e d ∧ m.b (dataFrom m e d - 1) ≠ 0)
  by_cases h : e < 128 ∧ m.c e = true
  · rw [dataFrom_go h.1 h.2]
    rcases ih h.1 (if m.b e = 0 then d else e + 1) (by omega) with h1 | h1
    · rw [h1]
      split
      · exact Or.inl rfl
      · rename_i hb; exact Or.inr ⟨by omega, by simpa using hb⟩
    · exact Or.inr ⟨by omega, h1.2⟩
  · rw [dataFrom_stop h]; exact Or.inl rfl

theorem runOf_last {m : Mem} (hm : m.wf) (a : Nat) (ha : a < 128) (h : 0 < (runOf m a).data.size) : (runOf m a).data[(runOf m a).data.size - 1] ≠ 0 := by
  have hb := dataFrom_bd m a a (by omega) (by omega)
  have he := endFrom_le m a (by omega)
  have hsz : (runOf m a).data.size = dataFrom m a a - a := by
    show ((m.byt.drop a).take (dataFrom m a a - a)).toArray.size = _
    rw [List.size_toArray, List.length_take, List.length_drop, hm.2]; omega
  rcases dataFrom_last m a a (by omega) with h1 | h1
  · omega
  · have e : (runOf m a).data[(runOf m a).data.size - 1] = m.b (dataFrom m a a - 1) := by
      rw [← ba_getD (runOf m a).data _ (by omega), hsz]
      show (((m.byt.drop a).take (dataFrom m a a - a)).toArray.toList).getD _ 0 = _
      simp only [List.getD_eq_getElem?_getD, Mem.b]
      rw [List.getElem?_take, if_pos (by omega), List.getElem?_drop, show a + (dataFrom m a a - a - 1) = dataFrom m a a - 1 by omega]
    rw [e]; exact h1.2

theorem start_gap (m : Mem) (a b : Nat) (hab : a < b) (hb : isStart m b = true) (hb2 : b < 128) : endFrom m a < b := by
  have hc : m.c (b - 1) = false := by
    simp only [isStart, Bool.and_eq_true, Bool.not_eq_true', Bool.and_eq_false_iff, decide_eq_false_iff_not] at hb
    rcases hb.2 with h | h
    · omega
    · exact h
  rcases Nat.lt_or_ge (endFrom m a) b with h | h
  · exact h
  · have := endFrom_cov m a (b - 1) (by omega) (by omega)
    rw [hc] at this; cases this

theorem runsOf_gap (m : Mem) : ∀ i (h : i + 1 < (runsOf m).length), (runsOf m)[i].addr + (runsOf m)[i].size < (runsOf m)[i + 1].addr := by
  intro i h
  have hlen : (runsOf m).length = ((List.range 128).filter (isStart m)).length := by simp [runsOf, runsTo]
  have hp : ((List.range 128).filter (isStart m)).Pairwise (· < ·) := List.Pairwise.filter _ List.pairwise_lt_range
  have hget : ∀ j (hj : j < (runsOf m).length), (runsOf m)[j] = runOf m (((List.range 128).filter (isStart m))[j]'(by omega)) := by
    intro j hj
    simp [runsOf, runsTo]
  have hmem : ∀ j (hj : j < ((List.range 128).filter (isStart m)).length), isStart m (((List.range 128).filter (isStart m))[j]) = true ∧ ((List.range 128).filter (isStart m))[j] < 128 := by
    intro j hj
    have := List.mem_filter.1 (List.getElem_mem hj)
    exact ⟨this.2, by simpa using this.1⟩
  rw [hget i (by omega), hget (i + 1) h]
  have hlt : ((List.range 128).filter (isStart m))[i]'(by omega) < ((List.range 128).filter (isStart m))[i + 1]'(by omega) := List.pairwise_iff_getElem.1 hp i (i + 1) (by omega) (by omega) (by omega)
  have hst := hmem (i + 1) (by omega)
  have := start_gap m _ _ hlt hst.1 hst.2
  simp only [runOf]
  omega

theorem runsOK_of {m : Mem} (hm : m.wf) (hf : ∀ s ∈ runsOf m, s.fits = true) : RunsOK (runsOf m) := by
  refine ⟨hf, ?_, runsOf_gap m⟩
  intro s hs h
  unfold runsOf runsTo at hs
  obtain ⟨a, ha, rfl⟩ := List.mem_map.1 hs
  exact runOf_last hm a (by have := (List.mem_filter.1 ha).1; simpa using this) h

/-- what an image that is one tells of its runs -/
theorem unpack_runs {l : List UInt8} {v e : Int} {rs : List Seg} (h : unpackM l = some (v, e, rs)) : ∃ m, layAll rs = some m ∧ m.wf ∧ rs = runsOf m ∧ drawAll rs = (m, true) ∧ (∀ s ∈ rs, s.fits = true) ∧ packM v e rs = (l, 0) ∧ 0 ≤ e ∧ e < 128 ∧ m.c e.toNat = true := by
  obtain ⟨m, h1, h2, h3, h4⟩ := unpack_mem h
  unfold unpackM at h
  split at h
  · cases h
  · rename_i v' e' rs' hd
    split at h
    · rename_i hp
      simp only [Option.some.injEq, Prod.mk.injEq] at h
      obtain ⟨rfl, rfl, rfl⟩ := h
      obtain ⟨m', hv0, hv1, _, hm', he0, he1, hce, hl, hlen⟩ := pack_ok hp
      rw [h1] at hm'
      cases hm'
      obtain ⟨d1, _⟩ := dec_text v' e' (runsOf m) (runsOf_small h2) (runsTo_length m 128) hv0 hv1 he0 he1 (by rw [← hl]; exact hlen)
      rw [← hl, hd] at d1
      simp only [Option.some.injEq, Prod.mk.injEq, true_and] at d1
      exact ⟨m, h1, h2, d1, h4, h3, hp, he0, he1, hce⟩
    · cases h
end Go.Proofs.YtfapgfpidhbhaaaDoor

namespace Go.Proofs.YtfapgfpidhbhaaaDoor

theorem putN_b {m : Mem} (hm : m.wf) (x : Nat) (d : ByteArray) (k : Nat) (hk : x + k ≤ 128) (a : Nat) : (m.putN x d k).b a = if x ≤ a ∧ a < x + k ∧ a - x < d.size then d.data.toList.getD (a - x) 0 else m.b a := by
  induction k with
  | zero => rw [if_neg (by omega)]; rfl
  | succ k ih =>
    have h2 := (Mem.putN_wf hm x d k).2
    by_cases hkd : k < d.size
    · have e : (m.putN x d (k + 1)).b a = if a = x + k then d.data.toList.getD k 0 else (m.putN x d k).b a := by
        unfold Mem.b
        rw [putN_byt_lt m x d k hkd, List.getD_eq_getElem?_getD, List.getElem?_set]
        by_cases hx : x + k = a
        · rw [if_pos hx, if_pos (by omega), if_pos hx.symm]; rfl
        · rw [if_neg hx, if_neg (fun h => hx h.symm), List.getD_eq_getElem?_getD]
      rw [e, ih (by omega)]
      by_cases hx : a = x + k
      · subst hx
        rw [if_pos rfl, if_pos (by omega), Nat.add_sub_cancel_left]
      · rw [if_neg hx]
        by_cases h : x ≤ a ∧ a < x + k ∧ a - x < d.size
        · rw [if_pos h, if_pos (by omega)]
        · rw [if_neg h, if_neg (by omega)]
    · have e : (m.putN x d (k + 1)).b a = (m.putN x d k).b a := by
        unfold Mem.b
        simp only [Mem.putN, Mem.put]
        rw [if_neg hkd]
      rw [e, ih (by omega)]
      by_cases h : x ≤ a ∧ a < x + k ∧ a - x < d.size
      · rw [if_pos h, if_pos (by omega)]
      · rw [if_neg h, if_neg (by omega)]

theorem mem_ext {m n : Mem} (hm : m.wf) (hn : n.wf) (hc : ∀ a, a < 128 → m.c a = n.c a) (hb : ∀ a, a < 128 → m.b a = n.b a) : m = n := by
  obtain ⟨c1, b1⟩ := m
  obtain ⟨c2, b2⟩ := n
  obtain ⟨h1, h2⟩ := hm
  obtain ⟨h3, h4⟩ := hn
  dsimp only at h1 h2 h3 h4
  have e1 : c1 = c2 := by
    apply List.ext_getElem (by omega)
    intro i hi1 hi2
    have := hc i (by omega)
    unfold Mem.c at this
    simp only [List.getD_eq_getElem?_getD, List.getElem?_eq_getElem hi1, List.getElem?_eq_getElem hi2, Option.getD_some] at this
    exact this
  have e2 : b1 = b2 := by
    apply List.ext_getElem (by omega)
    intro i hi1 hi2
    have := hb i (by omega)
    unfold Mem.b at this
    simp only [List.getD_eq_getElem?_getD, List.getElem?_eq_getElem hi1, List.getElem?_eq_getElem hi2, Option.getD_some] at this
    exact this
  rw [e1, e2]

/-- noughts where nothing is covered -/
def Mem.clean (m : Mem) : Prop := ∀ a, m.c a = false → m.b a = 0
theorem mem0_clean : mem0.clean := by
  intro a _
  unfold Mem.b mem0
  simp only [List.getD_eq_getElem?_getD, List.getElem?_replicate]
  split <;> rfl
theorem putN_clean {m : Mem} (hm : m.wf) (h : m.clean) (x : Nat) (d : ByteArray) (k : Nat) (hk : x + k ≤ 128) : (m.putN x d k).clean := by
  intro a ha
  rw [putN_c hm x d k hk, Bool.or_eq_false_iff] at ha
  rw [putN_b hm x d k hk, if_neg]
  · exact h a ha.1
  · rintro ⟨h1, h2, _⟩
    have := ha.2
    rw [decide_eq_true h1, decide_eq_true h2] at this
    cases this
theorem step_some {m : Mem} {s : Seg} (hm : m.wf) (hf : s.fits = true) (hfree : ∀ a : Nat, s.covers a = true → m.c a = false) : m.step s = some (m.putS s) := by
  obtain ⟨f1, f2, f3, f4⟩ := (Seg.fits_iff _).1 hf
  unfold Mem.step
  have hfr : m.freeS s = true := by
    unfold Mem.freeS
    rw [freeN_iff hm _ _ _ (by omega)]
    intro i hi
    apply hfree
    unfold Seg.covers
    rw [decide_eq_true (by omega), decide_eq_true (by omega)]; rfl
  rw [hf, hfr]; rfl
theorem fold_clean (l : List Seg) : ∀ {m m1 : Mem}, m.wf → m.clean → l.foldlM Mem.step m = some m1 → m1.clean := by
  induction l with
  | nil => intro m m1 _ hc h; cases h; exact hc
  | cons s r ih =>
    intro m m1 hm hc h
    rw [List.foldlM_cons] at h
    cases hst : m.step s with
    | none => rw [hst] at h; cases h
    | some m2 =>
      rw [hst] at h
      refine ih (Mem.step_wf hm hst) ?_ h
      unfold Mem.step at hst
      split at hst
      · rename_i hx
        cases hst
        simp only [Bool.and_eq_true] at hx
        obtain ⟨f1, f2, f3, f4⟩ := (Seg.fits_iff _).1 hx.1
        exact putN_clean hm hc _ _ _ (by omega)
      · cases hst
theorem layAll_clean {l : List Seg} {m : Mem} (h : layAll l = some m) : m.clean := fold_clean l mem0_wf mem0_clean h

theorem coverN_zero {l : List Seg} {a : Int} (h : ∀ s ∈ l, s.covers a = false) : coverN l a = 0 := by
  unfold coverN
  rw [List.length_eq_zero_iff, List.filter_eq_nil_iff]
  intro s hs; rw [h s hs]; simp
/-- segments one behind the other lay -/
theorem lay_order (P : List Seg) (hf : ∀ s ∈ P, s.fits = true) (ho : P.Pairwise fun s t => s.addr + s.size ≤ t.addr) : ∀ k, k ≤ P.length → ∃ m, layAll (P.take k) = some m := by
  intro k
  induction k with
  | zero => intro _; exact ⟨mem0, rfl⟩
  | succ k ih =>
    intro hk
    obtain ⟨m, hm⟩ := ih (by omega)
    have hlt : k < P.length := by omega
    refine ⟨m.putS P[k], ?_⟩
    rw [layAll_snoc P k hlt m hm]
    refine step_some (layAll_wf hm) (hf _ (List.getElem_mem hlt)) ?_
    intro a ha
    have h1 := coverN_lay hm a
    have h2 : coverN (P.take k) a = 0 := by
      apply coverN_zero
      intro s hs
      obtain ⟨i, hi, rfl⟩ := List.mem_iff_getElem.1 hs
      have hi2 : i < k := by simp at hi; omega
      rw [List.getElem_take]
      have := List.pairwise_iff_getElem.1 ho i k (by omega) hlt hi2
      unfold Seg.covers at ha ⊢
      simp only [Bool.and_eq_true, decide_eq_true_eq] at ha
      rw [Bool.and_eq_false_iff]
      right
      exact decide_eq_false (by omega)
    rw [h2] at h1
    cases hc : m.c a
    · rfl
    · rw [hc] at h1; simp at h1

theorem dataFrom_zero (m : Mem) (e d : Nat) (hd : d ≤ e) (he : e ≤ 128) : ∀ y, dataFrom m e d ≤ y → e ≤ y → y < endFrom m e → m.b y = 0 := by
  refine up_ind (p := fun e => ∀ d, d ≤ e → e ≤ 128 → ∀ y, dataFrom m e d ≤ y → e ≤ y → y < endFrom m e → m.b y = 0) (fun e ih d hd he => ?_) e d hd he
  intro y h1 h2 h3
  by_cases h : e < 128 ∧ m.c e = true
  · rw [dataFrom_go h.1 h.2] at h1
    rw [endFrom_go h.1 h.2] at h3
    by_cases hy : y = e
    · subst hy
      by_cases hb : m.b y = 0
      · exact hb
      · rw [if_neg hb] at h1
        have := (dataFrom_bd m (y + 1) (y + 1) (by omega) (by omega)).1
        omega
    · exact ih h.1 (if m.b e = 0 then d else e + 1) (by split <;> omega) (by omega) y h1 (by omega) h3
  · rw [endFrom_stop h] at h3; omega

theorem runOf_fits {m : Mem} (hm : m.wf) (a : Nat) (ha : a < 128) (hc : m.c a = true) : (runOf m a).fits = true := by
  have h1 := endFrom_le m a (by omega)
  have h2 := endFrom_ge m (a + 1)
  rw [← endFrom_go ha hc] at h2
  have h3 := dataFrom_bd m a a (by omega) (by omega)
  have hsz : (runOf m a).data.size = dataFrom m a a - a := by
    show ((m.byt.drop a).take (dataFrom m a a - a)).toArray.size = _
    rw [List.size_toArray, List.length_take, List.length_drop, hm.2]; omega
  rw [Seg.fits_iff, hsz]
  simp only [runOf]
  omega
theorem runOf_covers (m : Mem) (a x : Nat) : (runOf m a).covers x = (decide (a ≤ x) && decide (x < endFrom m a)) := by
  have h2 := endFrom_ge m a
  unfold Seg.covers runOf
  rw [Bool.eq_iff_iff]
  simp only [Bool.and_eq_true, decide_eq_true_eq]
  omega

theorem fold_b (l : List Seg) : ∀ {m m1 : Mem}, m.wf → m.clean → l.foldlM Mem.step m = some m1 → ∀ a : Nat, (∀ s ∈ l, s.covers a = false) → m1.b a = m.b a := by
  induction l with
  | nil => intro m m1 _ _ h a _; cases h; rfl
  | cons s r ih =>
    intro m m1 hm hc h a hno
    rw [List.foldlM_cons] at h
    cases hst : m.step s with
    | none => rw [hst] at h; cases h
    | some m2 =>
      rw [hst] at h
      have hst' := hst
      unfold Mem.step at hst
      split at hst
      · rename_i hx
        cases hst
        simp only [Bool.and_eq_true] at hx
        obtain ⟨f1, f2, f3, f4⟩ := (Seg.fits_iff _).1 hx.1
        rw [ih (Mem.step_wf hm hst') (putN_clean hm hc _ _ _ (by omega)) h a (fun t ht => hno t (by simp [ht]))]
        unfold Mem.putS
        rw [putN_b hm _ _ _ (by omega), if_neg]
        rintro ⟨h1, h2, _⟩
        have := hno s (by simp)
        unfold Seg.covers at this
        rw [decide_eq_true (by omega), decide_eq_true (by omega)] at this
        cases this
      · cases hst
theorem fold_b_in (l : List Seg) : ∀ {m m1 : Mem}, m.wf → m.clean → l.foldlM Mem.step m = some m1 → ∀ (a : Nat) (s : Seg), s ∈ l → s.covers a = true → m1.b a = s.data.data.toList.getD (a - s.addr.toNat) 0 := by
  induction l with
  | nil => intro m m1 _ _ h a s hs; cases hs
  | cons s r ih =>
    intro m m1 hm hc h a t ht hcv
    have hfold := h
    rw [List.foldlM_cons] at h
    cases hst : m.step s with
    | none => rw [hst] at h; cases h
    | some m2 =>
      rw [hst] at h
      have hst' := hst
      unfold Mem.step at hst
      split at hst
      · rename_i hx
        cases hst
        simp only [Bool.and_eq_true] at hx
        obtain ⟨f1, f2, f3, f4⟩ := (Seg.fits_iff _).1 hx.1
        have hcl2 : (m.putS s).clean := putN_clean hm hc _ _ _ (by omega)
        have hw2 := Mem.step_wf hm hst'
        by_cases hs : s.covers a = true
        · have hone := cover_fold (s :: r) hm hfold a
          have hr0 : coverN r a = 0 := by
            have h3 : coverN (s :: r) a = 1 + coverN r a := by
              unfold coverN
              simp [hs]; omega
            rw [h3] at hone
            split at hone <;> split at hone <;> omega
          have hno : ∀ u ∈ r, u.covers a = false := by
            intro u hu
            unfold coverN at hr0
            rw [List.length_eq_zero_iff, List.filter_eq_nil_iff] at hr0
            have := hr0 u hu
            simpa using this
          have hts : t = s := by
            rcases List.mem_cons.1 ht with e | e
            · exact e
            · rw [hno t e] at hcv; cases hcv
          subst hts
          rw [fold_b r hw2 hcl2 h a hno]
          have hcv2 := hcv
          unfold Seg.covers at hcv2
          simp only [Bool.and_eq_true, decide_eq_true_eq] at hcv2
          have hma : m.c a = false := by
            have := (freeN_iff hm _ t.data _ (by omega)).1 hx.2 (a - t.addr.toNat) (by omega)
            rwa [show t.addr.toNat + (a - t.addr.toNat) = a by omega] at this
          unfold Mem.putS
          rw [putN_b hm _ _ _ (by omega)]
          by_cases hd : a - t.addr.toNat < t.data.size
          · rw [if_pos (by omega)]
          · rw [if_neg (by omega), hc a hma, List.getD_eq_getElem?_getD, List.getElem?_eq_none (by show t.data.size ≤ _; omega)]; rfl
        · have htr : t ∈ r := by
            rcases List.mem_cons.1 ht with e | e
            · rw [e] at hcv; exact absurd hcv hs
            · exact e
          exact ih hw2 hcl2 h a t htr hcv
      · cases hst
theorem lay_b {l : List Seg} {m : Mem} (h : layAll l = some m) (a : Nat) (s : Seg) (hs : s ∈ l) (hc : s.covers a = true) : m.b a = s.data.data.toList.getD (a - s.addr.toNat) 0 := fold_b_in l mem0_wf mem0_clean h a s hs hc

theorem start_of (m : Mem) (a : Nat) (ha : a < 128) (hc : m.c a = true) : ∃ b, b ≤ a ∧ isStart m b = true ∧ a < endFrom m b := by
  induction a with
  | zero =>
    refine ⟨0, Nat.le_refl _, by simp [isStart, hc], ?_⟩
    have h := endFrom_ge m (0 + 1)
    rw [← endFrom_go ha hc] at h; omega
  | succ a ih =>
    cases hst : isStart m (a + 1)
    · have hp : m.c a = true := by
        simp only [isStart, hc, Bool.true_and, Bool.not_eq_false', Bool.and_eq_true, decide_eq_true_eq] at hst
        exact hst.2
      obtain ⟨b, h1, h2, h3⟩ := ih (by omega) hp
      refine ⟨b, by omega, h2, ?_⟩
      have := endFrom_end m b
      rcases Nat.lt_or_ge (a + 1) (endFrom m b) with h | h
      · exact h
      · have e : endFrom m b = a + 1 := by omega
        rw [e] at this
        exact absurd ⟨ha, hc⟩ this
    · refine ⟨a + 1, Nat.le_refl _, hst, ?_⟩
      have h := endFrom_ge m (a + 1 + 1)
      rw [← endFrom_go ha hc] at h; omega

/-- the runs of a picture lay that picture again -/
theorem lay_runs {m : Mem} (hm : m.wf) (hcl : m.clean) : layAll (runsOf m) = some m := by
  have hfit : ∀ s ∈ runsOf m, s.fits = true := by
    intro s hs
    unfold runsOf runsTo at hs
    obtain ⟨a, ha, rfl⟩ := List.mem_map.1 hs
    have h1 := List.mem_filter.1 ha
    have hst := h1.2
    simp only [isStart, Bool.and_eq_true] at hst
    exact runOf_fits hm a (by simpa using h1.1) hst.1
  have hord : (runsOf m).Pairwise fun s t => s.addr + s.size ≤ t.addr := by
    unfold runsOf runsTo
    rw [List.pairwise_map]
    have hp : ((List.range 128).filter (isStart m)).Pairwise (· < ·) := List.Pairwise.filter _ List.pairwise_lt_range
    refine List.Pairwise.imp_of_mem ?_ hp
    intro a b _ hb hab
    have hb' := List.mem_filter.1 hb
    have := start_gap m a b hab hb'.2 (by simpa using hb'.1)
    simp only [runOf]
    omega
  obtain ⟨m1, hm1⟩ := lay_order (runsOf m) hfit hord (runsOf m).length (Nat.le_refl _)
  rw [List.take_of_length_le (Nat.le_refl _)] at hm1
  have hw1 := layAll_wf hm1
  have hcl1 := layAll_clean hm1
  have hcov : ∀ a, a < 128 → m1.c a = m.c a := by
    intro a ha
    have h1 := coverN_lay hm1 a
    cases hc : m.c a
    · have : coverN (runsOf m) a = 0 := by
        apply coverN_zero
        intro s hs
        unfold runsOf runsTo at hs
        obtain ⟨b, hb, rfl⟩ := List.mem_map.1 hs
        rw [runOf_covers, Bool.and_eq_false_iff]
        by_cases hba : b ≤ a
        · right
          apply decide_eq_false
          intro hlt
          rw [endFrom_cov m b a hba hlt] at hc; cases hc
        · left; exact decide_eq_false hba
      rw [this] at h1
      cases hc1 : m1.c a
      · rfl
      · rw [hc1] at h1; simp at h1
    · obtain ⟨b, hb1, hb2, hb3⟩ := start_of m a ha hc
      have hmem : runOf m b ∈ runsOf m := by
        unfold runsOf runsTo
        exact List.mem_map.2 ⟨b, List.mem_filter.2 ⟨by simp; omega, hb2⟩, rfl⟩
      cases hc1 : m1.c a
      · rw [hc1] at h1
        have h0 : coverN (runsOf m) a = 0 := by simpa using h1
        unfold coverN at h0
        rw [List.length_eq_zero_iff, List.filter_eq_nil_iff] at h0
        have := h0 _ hmem
        rw [runOf_covers, decide_eq_true hb1, decide_eq_true hb3] at this
        exact absurd rfl this
      · rfl
  rw [hm1]
  congr 1
  apply mem_ext hw1 hm hcov
  intro a ha
  cases hc : m.c a
  · rw [hcl a hc, hcl1 a (by rw [hcov a ha, hc])]
  · obtain ⟨b, hb1, hb2, hb3⟩ := start_of m a ha hc
    have hmem : runOf m b ∈ runsOf m := by
      unfold runsOf runsTo
      exact List.mem_map.2 ⟨b, List.mem_filter.2 ⟨by simp; omega, hb2⟩, rfl⟩
    rw [lay_b hm1 a _ hmem (by rw [runOf_covers, decide_eq_true hb1, decide_eq_true hb3]; rfl)]
    show (((m.byt.drop b).take (dataFrom m b b - b)).toArray.toList).getD (a - b) 0 = m.b a
    have hd := dataFrom_bd m b b (Nat.le_refl _) (by omega)
    simp only [List.getD_eq_getElem?_getD]
    rw [List.getElem?_take]
    by_cases hlt : a - b < dataFrom m b b - b
    · rw [if_pos hlt, List.getElem?_drop, show b + (a - b) = a by omega]
      unfold Mem.b
      rw [List.getD_eq_getElem?_getD]
    · rw [if_neg hlt, dataFrom_zero m b b (Nat.le_refl _) (by omega) a (by omega) hb1 hb3]; rfl
end Go.Proofs.YtfapgfpidhbhaaaDoor

namespace Go.Proofs.YtfapgfpidhbhaaaDoor

/-! counting: what the runs cover is what the segments cover -/
def sumTo (f : Nat → Nat) : Nat → Nat
  | 0 => 0
  | n + 1 => sumTo f n + f n
theorem sumTo_add (f g : Nat → Nat) (n : Nat) : sumTo (fun a => f a + g a) n = sumTo f n + sumTo g n := by
  induction n with
  | zero => rfl
  | succ n ih => simp only [sumTo, ih]; omega
theorem sumTo_congr {f g : Nat → Nat} (n : Nat) (h : ∀ a, a < n → f a = g a) : sumTo f n = sumTo g n := by
  induction n with
  | zero => rfl
  | succ n ih => simp only [sumTo]; rw [ih (fun a ha => h a (by omega)), h n (by omega)]
def sizes (l : List Seg) : Nat := (l.map fun s => s.size.toNat).sum
theorem sum_one (s : Seg) (h0 : 0 ≤ s.addr) (h1 : 0 ≤ s.size) (n : Nat) : sumTo (fun a => if s.covers (a : Int) then 1 else 0) n = min n (s.addr.toNat + s.size.toNat) - min n s.addr.toNat := by
  induction n with
  | zero => simp [sumTo]
  | succ n ih =>
    simp only [sumTo, ih]
    by_cases h : s.addr.toNat ≤ n ∧ n < s.addr.toNat + s.size.toNat
    · rw [if_pos (by unfold Seg.covers; simp only [Bool.and_eq_true, decide_eq_true_eq]; omega)]; omega
    · rw [if_neg (by unfold Seg.covers; simp only [Bool.and_eq_true, decide_eq_true_eq]; omega)]; omega
theorem coverN_cons (s : Seg) (r : List Seg) (a : Int) : coverN (s :: r) a = (if s.covers a then 1 else 0) + coverN r a := by
  unfold coverN
  by_cases hc : s.covers a
  · simp [hc]; omega
  · simp [hc]
theorem sum_cover (l : List Seg) (hf : ∀ s ∈ l, s.fits = true) : sumTo (fun a => coverN l (a : Int)) 128 = sizes l := by
  induction l with
  | nil =>
    have : ∀ n, sumTo (fun a => coverN [] (a : Int)) n = 0 := by
      intro n; induction n with
      | zero => rfl
      | succ n ih => simp only [sumTo, ih]; rfl
    rw [this]; rfl
  | cons s r ih =>
    have e : sumTo (fun a => coverN (s :: r) (a : Int)) 128 = sumTo (fun a => (if s.covers (a : Int) then 1 else 0) + coverN r (a : Int)) 128 := sumTo_congr _ fun a _ => coverN_cons s r a
    obtain ⟨f1, f2, f3, f4⟩ := (Seg.fits_iff _).1 (hf s (by simp))
    rw [e, sumTo_add, ih (fun t ht => hf t (by simp [ht])), sum_one s f1 (by omega)]
    simp only [sizes, List.map_cons, List.sum_cons]
    omega
theorem sizes_runs {P : List Seg} {m : Mem} (hf : ∀ s ∈ P, s.fits = true) (hm : layAll P = some m) : sizes (runsOf m) = sizes P := by
  have hw := layAll_wf hm
  have hr := lay_runs hw (layAll_clean hm)
  have hfr : ∀ s ∈ runsOf m, s.fits = true := by
    intro s hs
    unfold runsOf runsTo at hs
    obtain ⟨a, ha, rfl⟩ := List.mem_map.1 hs
    have h1 := List.mem_filter.1 ha
    have hst := h1.2
    simp only [isStart, Bool.and_eq_true] at hst
    exact runOf_fits hw a (by simpa using h1.1) hst.1
  rw [← sum_cover _ hf, ← sum_cover _ hfr]
  exact sumTo_congr _ fun a _ => by rw [coverN_lay hm, coverN_lay hr]
theorem runs_fit {m : Mem} (hw : m.wf) : ∀ s ∈ runsOf m, s.fits = true := by
  intro s hs
  unfold runsOf runsTo at hs
  obtain ⟨a, ha, rfl⟩ := List.mem_map.1 hs
  have h1 := List.mem_filter.1 ha
  have hst := h1.2
  simp only [isStart, Bool.and_eq_true] at hst
  exact runOf_fits hw a (by simpa using h1.1) hst.1

theorem sub_length {α : Type} [DecidableEq α] : ∀ (l k : List α), l.Nodup → (∀ x ∈ l, x ∈ k) → l.length ≤ k.length := by
  intro l
  induction l with
  | nil => intro k _ _; exact Nat.zero_le _
  | cons x r ih =>
    intro k hn hs
    rw [List.nodup_cons] at hn
    have hx : x ∈ k := hs x (by simp)
    have := ih (k.erase x) hn.2 (fun y hy => by
      have hyk := hs y (by simp [hy])
      have hne : y ≠ x := by rintro rfl; exact hn.1 hy
      exact (List.mem_erase_of_ne hne).2 hyk)
    rw [List.length_erase_of_mem hx] at this
    have : 0 < k.length := List.length_pos_of_mem hx
    simp only [List.length_cons]
    omega
theorem runs_count {P : List Seg} {m : Mem} (hf : ∀ s ∈ P, s.fits = true) (hm : layAll P = some m) : (runsOf m).length ≤ P.length := by
  have hlen : (runsOf m).length = ((List.range 128).filter (isStart m)).length := by simp [runsOf, runsTo]
  have hP : (P.map fun s : Seg => s.addr.toNat).length = P.length := by simp
  rw [hlen, ← hP]
  apply sub_length
  · exact List.Nodup.sublist List.filter_sublist List.nodup_range
  · intro b hb
    have h1 := List.mem_filter.1 hb
    have hst := h1.2
    simp only [isStart, Bool.and_eq_true, Bool.not_eq_true', Bool.and_eq_false_iff, decide_eq_false_iff_not] at hst
    have hc := coverN_lay hm b
    rw [hst.1, if_pos rfl] at hc
    have hpos : 0 < (P.filter (·.covers (b : Int))).length := by unfold coverN at hc; omega
    obtain ⟨s, hs⟩ := List.exists_mem_of_length_pos hpos
    have hs2 := List.mem_filter.1 hs
    have hcv := hs2.2
    obtain ⟨f1, f2, f3, f4⟩ := (Seg.fits_iff _).1 (hf s hs2.1)
    unfold Seg.covers at hcv
    simp only [Bool.and_eq_true, decide_eq_true_eq] at hcv
    rw [List.mem_map]
    refine ⟨s, hs2.1, ?_⟩
    rcases Nat.lt_or_ge s.addr.toNat b with hlt | hge
    · have hcb : m.c (b - 1) = true := by
        have h2 := coverN_lay hm (b - 1)
        have h3 : 0 < coverN P ((b - 1 : Nat) : Int) := by
          unfold coverN
          apply List.length_pos_of_mem (a := s)
          rw [List.mem_filter]
          refine ⟨hs2.1, ?_⟩
          unfold Seg.covers
          simp only [Bool.and_eq_true, decide_eq_true_eq]
          omega
        cases h4 : m.c (b - 1)
        · rw [h4] at h2; simp at h2; omega
        · rfl
      rcases hst.2 with h | h
      · omega
      · rw [h] at hcb; cases hcb
    · omega

theorem flat_length (l : List Seg) (hf : ∀ s ∈ l, s.fits = true) : (l.flatMap runBytes).length ≤ 3 * l.length + sizes l := by
  induction l with
  | nil => simp [sizes]
  | cons s r ih =>
    have := ih (fun t ht => hf t (by simp [ht]))
    obtain ⟨f1, f2, f3, f4⟩ := (Seg.fits_iff _).1 (hf s (by simp))
    have hd : s.data.data.toList.length = s.data.size := rfl
    simp only [List.flatMap_cons, List.length_append, List.length_cons, sizes, List.map_cons, List.sum_cons, runBytes, hd, List.length_nil] at *
    omega
theorem textOf_length (v e : Int) (l : List Seg) : (textOf v e l).length = 8 + (l.flatMap runBytes).length := by
  simp only [textOf, bodyOf, List.length_append, List.length_cons, List.length_nil]; omega
theorem sizes_le (P : List Seg) (h : ∀ s ∈ P, s.size ≤ 12) : sizes P ≤ 12 * P.length := by
  induction P with
  | nil => simp [sizes]
  | cons s r ih =>
    have := ih (fun t ht => h t (by simp [ht]))
    have := h s (by simp)
    simp only [sizes, List.map_cons, List.sum_cons, List.length_cons] at *
    omega

/-- what there is to know of an image that was made -/
structure Made (v e : Int) (m : Mem) : Prop where
  wf : m.wf
  clean : m.clean
  v0 : 0 ≤ v
  v1 : v ≤ 65535
  e0 : 0 ≤ e
  e1 : e < 128
  ce : m.c e.toNat = true
  len : (textOf v e (runsOf m)).length ≤ 120
  few : (runsOf m).length ≤ 8

theorem Made.dec {v e : Int} {m : Mem} (h : Made v e m) : decM (textOf v e (runsOf m)) = some (v, e, runsOf m) :=
  (dec_text v e (runsOf m) (runsOf_small h.wf) (runsTo_length m 128) h.v0 h.v1 h.e0 h.e1 h.len).1
theorem pack_lays {v e : Int} {m : Mem} (h : Made v e m) {Q : List Seg} (hf : ∀ s ∈ Q, s.fits = true) (h1 : 1 ≤ Q.length) (h8 : Q.length ≤ 8) (hm : layAll Q = some m) : packM v e Q = (textOf v e (runsOf m), 0) := by
  unfold packM
  have hfit : allFit Q = true := by
    unfold allFit
    rw [decide_eq_true h1, decide_eq_true h8, List.all_eq_true.2 hf]; rfl
  have := h.v0
  have := h.v1
  rw [if_neg (by omega), if_neg (by rw [hfit]; simp), hm]
  dsimp only
  have h120 := h.len
  rw [if_neg (by rw [h.ce]; have := h.e0; have := h.e1; simp; omega), if_neg (by omega)]
theorem Made.ne {v e : Int} {m : Mem} (h : Made v e m) : 1 ≤ (runsOf m).length := by
  obtain ⟨b, h1, h2, h3⟩ := start_of m e.toNat (by have := h.e1; have := h.e0; omega) h.ce
  have hmem : runOf m b ∈ runsOf m := by
    unfold runsOf runsTo
    exact List.mem_map.2 ⟨b, List.mem_filter.2 ⟨by simp; have := h.e1; have := h.e0; omega, h2⟩, rfl⟩
  exact List.length_pos_of_mem hmem
theorem Made.unpack {v e : Int} {m : Mem} (h : Made v e m) : unpackM (textOf v e (runsOf m)) = some (v, e, runsOf m) := by
  unfold unpackM
  rw [h.dec]
  dsimp only
  rw [if_pos (pack_lays h (runs_fit h.wf) h.ne h.few (lay_runs h.wf h.clean))]
theorem made_of {P : List Seg} {m : Mem} {v e : Int} (hf : ∀ s ∈ P, s.fits = true) (hm : layAll P = some m) (hs : sizes P ≤ 72) (hl : P.length ≤ 6) (hv0 : 0 ≤ v) (hv1 : v ≤ 65535) {s : Seg} (hsP : s ∈ P) (he : e = s.addr) : Made v e m := by
  have hw := layAll_wf hm
  obtain ⟨f1, f2, f3, f4⟩ := (Seg.fits_iff _).1 (hf s hsP)
  have hc := runs_count hf hm
  refine ⟨hw, layAll_clean hm, hv0, hv1, by omega, by omega, ?_, ?_, by omega⟩
  · have h1 := coverN_lay hm e.toNat
    have h3 : 0 < coverN P (e.toNat : Int) := by
      unfold coverN
      apply List.length_pos_of_mem (a := s)
      rw [List.mem_filter]
      refine ⟨hsP, ?_⟩
      unfold Seg.covers
      simp only [Bool.and_eq_true, decide_eq_true_eq]
      omega
    cases h4 : m.c e.toNat
    · rw [h4, if_neg (by simp)] at h1; omega
    · rfl
  · rw [textOf_length]
    have h1 := flat_length (runsOf m) (runs_fit hw)
    rw [sizes_runs hf hm] at h1
    omega

/-- two pictures, two images -/
theorem text_inj {v v' e e' : Int} {m m' : Mem} (h : Made v e m) (h' : Made v' e' m') (ht : textOf v e (runsOf m) = textOf v' e' (runsOf m')) : v = v' ∧ m = m' := by
  have h1 := h.dec
  rw [ht, h'.dec] at h1
  simp only [Option.some.injEq, Prod.mk.injEq] at h1
  refine ⟨h1.1.symm, ?_⟩
  have h2 := lay_runs h.wf h.clean
  rw [← h1.2.2, lay_runs h'.wf h'.clean] at h2
  exact (Option.some.inj h2).symm

/-! images that begin alike -/
theorem byteOf_inj {a b : Int} (ha : 0 ≤ a) (ha1 : a < 256) (hb : 0 ≤ b) (hb1 : b < 256) (h : byteOf a = byteOf b) : a = b := by
  have h1 := byteOf_toNat a ha ha1
  have h2 := byteOf_toNat b hb hb1
  rw [h] at h1; omega
theorem runs_prefix : ∀ (R R' : List Seg) (t t' : List UInt8), R.length = R'.length → (∀ s ∈ R, s.data.size < 256) → (∀ s ∈ R', s.data.size < 256) → R.flatMap runBytes ++ t = R'.flatMap runBytes ++ t' → t = t' := by
  intro R
  induction R with
  | nil =>
    intro R' t t' hl _ _ h
    cases R' with
    | nil => simpa using h
    | cons => simp at hl
  | cons s r ih =>
    intro R' t t' hl h1 h2 h
    cases R' with
    | nil => simp at hl
    | cons s' r' =>
      have hs := h1 s (by simp)
      have hs' := h2 s' (by simp)
      simp only [List.flatMap_cons, runBytes, List.append_assoc, List.cons_append, List.nil_append, List.cons.injEq] at h
      obtain ⟨_, _, hd, hrest⟩ := h
      have hdd := byteOf_inj (by omega) (by omega) (by omega) (by omega) hd
      have hlen : s.data.data.toList.length = s'.data.data.toList.length := by
        show s.data.size = s'.data.size
        omega
      have := (List.append_inj hrest hlen).2
      exact ih r' t t' (by simpa using hl) (fun x hx => h1 x (by simp [hx])) (fun x hx => h2 x (by simp [hx])) this
theorem made_prefix {v v' e e' : Int} {m m' : Mem} (h : Made v e m) (h' : Made v' e' m') (u : List UInt8) (ht : textOf v e (runsOf m) ++ u = textOf v' e' (runsOf m')) : u = [] := by
  have h8 := h.few
  have h8' := h'.few
  have hs := fun s hs => (runsOf_ok h.wf s hs).2
  have hs' := fun s hs => (runsOf_ok h'.wf s hs).2
  simp only [textOf, bodyOf, List.append_assoc, List.cons_append, List.nil_append, List.cons.injEq] at ht
  obtain ⟨_, _, _, _, _, hc, hr⟩ := ht
  have hcc := byteOf_inj (by omega) (by omega) (by omega) (by omega) hc
  have := runs_prefix _ _ _ _ (by omega) (fun s hx => by have := hs s hx; omega) (fun s hx => by have := hs' s hx; omega) hr
  have h2 := congrArg List.length this
  simp only [List.length_cons, List.length_nil] at h2
  exact List.length_eq_zero_iff.1 (by omega)
/-- what an image that is taken is made of -/
theorem taken_made {l : List UInt8} {q : Int × Int × List Seg} (h : unpackM l = some q) : ∃ v e m, Made v e m ∧ l = textOf v e (runsOf m) := by
  obtain ⟨v, e, rs⟩ := q
  obtain ⟨m, h1, h2, h3, h4, h5, h6, h7, h8, h9⟩ := unpack_runs h
  obtain ⟨_, hl8⟩ := unpack_ne h
  obtain ⟨m', g1, g2, _, g3, g4, g5, g6, g7, g8⟩ := pack_ok h6
  rw [h1] at g3
  cases g3
  exact ⟨v, e, m, ⟨h2, layAll_clean h1, g1, g2, g4, g5, g6, by rw [← g7]; exact g8, by rw [← h3]; exact hl8⟩, g7⟩
theorem longer_none {v e : Int} {m : Mem} (h : Made v e m) (u : List UInt8) (hu : u ≠ []) : unpackM (textOf v e (runsOf m) ++ u) = none := by
  cases hx : unpackM (textOf v e (runsOf m) ++ u) with
  | none => rfl
  | some q =>
    obtain ⟨v', e', m', h', ht⟩ := taken_made hx
    exact absurd (made_prefix h h' u ht) hu
theorem shorter_none {v e : Int} {m : Mem} (h : Made v e m) (k : Nat) (hk : k < (textOf v e (runsOf m)).length) : unpackM ((textOf v e (runsOf m)).take k) = none := by
  cases hx : unpackM ((textOf v e (runsOf m)).take k) with
  | none => rfl
  | some q =>
    obtain ⟨v', e', m', h', ht⟩ := taken_made hx
    have := made_prefix h' h ((textOf v e (runsOf m)).drop k) (by rw [← ht, List.take_append_drop])
    have h2 := congrArg List.length this
    simp at h2
    omega

/-! one byte turned -/
def chk (h : Nat) (l : List UInt8) : Nat := l.foldl (fun h b => (31 * h + b.toNat) % 65521) h
theorem chk_lt (l : List UInt8) : ∀ h, h < 65521 → chk h l < 65521 := by
  induction l with
  | nil => intro h hh; exact hh
  | cons b r ih => intro h _; exact ih _ (Nat.mod_lt _ (by decide))
theorem chk_ne (l : List UInt8) : ∀ h h', h < 65521 → h' < 65521 → h ≠ h' → chk h l ≠ chk h' l := by
  induction l with
  | nil => intro h h' _ _ hne; exact hne
  | cons b r ih =>
    intro h h' h1 h2 hne
    show chk ((31 * h + b.toNat) % 65521) r ≠ chk ((31 * h' + b.toNat) % 65521) r
    exact ih _ _ (Nat.mod_lt _ (by decide)) (Nat.mod_lt _ (by decide)) (by omega)
theorem chk_set (l : List UInt8) : ∀ (h k : Nat) (x : UInt8), h < 65521 → (hk : k < l.length) → x ≠ l[k] → chk h (l.set k x) ≠ chk h l := by
  induction l with
  | nil => intro h k x _ hk; simp at hk
  | cons b r ih =>
    intro h k x hh hk hne
    cases k with
    | zero =>
      show chk ((31 * h + x.toNat) % 65521) r ≠ chk ((31 * h + b.toNat) % 65521) r
      apply chk_ne _ _ _ (Nat.mod_lt _ (by decide)) (Nat.mod_lt _ (by decide))
      have h1 := x.toNat_lt
      have h2 := b.toNat_lt
      have h3 : x.toNat ≠ b.toNat := fun e => hne (UInt8.toNat_inj.1 e)
      omega
    | succ k =>
      show chk ((31 * h + b.toNat) % 65521) (r.set k x) ≠ chk ((31 * h + b.toNat) % 65521) r
      exact ih _ _ _ (Nat.mod_lt _ (by decide)) (by simpa using hk) (by simpa using hne)
theorem turned_none {v e : Int} {m : Mem} (_h : Made v e m) (k : Nat) (hk : k < (textOf v e (runsOf m)).length) (x : UInt8) (hx : x ≠ (textOf v e (runsOf m))[k]) : unpackM ((textOf v e (runsOf m)).set k x) = none := by
  cases hq : unpackM ((textOf v e (runsOf m)).set k x) with
  | none => rfl
  | some q =>
    exfalso
    obtain ⟨v', e', m', h', ht⟩ := taken_made hq
    have e1 : textOf v e (runsOf m) = bodyOf v e (runsOf m) ++ [byteOf (checkOf (bodyOf v e (runsOf m)) / 256 : Nat), byteOf (checkOf (bodyOf v e (runsOf m)) % 256 : Nat)] := rfl
    have e2 : textOf v' e' (runsOf m') = bodyOf v' e' (runsOf m') ++ [byteOf (checkOf (bodyOf v' e' (runsOf m')) / 256 : Nat), byteOf (checkOf (bodyOf v' e' (runsOf m')) % 256 : Nat)] := rfl
    have hl1 : (textOf v e (runsOf m)).length = (textOf v' e' (runsOf m')).length := by rw [← ht, List.length_set]
    generalize textOf v e (runsOf m) = T at *
    generalize textOf v' e' (runsOf m') = T' at *
    generalize bodyOf v e (runsOf m) = B at *
    generalize bodyOf v' e' (runsOf m') = B' at *
    subst e1
    subst e2
    have hl2 : B.length = B'.length := by simpa using hl1
    have hb1 := checkOf_lt B
    have hb2 := checkOf_lt B'
    rcases Nat.lt_or_ge k B.length with hkb | hkb
    · rw [List.set_append_left _ _ hkb] at ht
      obtain ⟨t1, t2⟩ := List.append_inj ht (by simpa using hl2)
      have hne := chk_set B 1 k x (by decide) hkb (by rwa [List.getElem_append_left hkb] at hx)
      have t3 : checkOf B ≠ checkOf B' := by rw [← t1]; exact fun e => hne e.symm
      simp only [List.cons.injEq, and_true] at t2
      have q1 := byteOf_inj (by omega) (by omega) (by omega) (by omega) t2.1
      have q2 := byteOf_inj (by omega) (by omega) (by omega) (by omega) t2.2
      omega
    · rw [List.set_append_right _ _ hkb] at ht
      obtain ⟨t1, t2⟩ := List.append_inj ht hl2
      subst t1
      have hk2 : k - B.length < [byteOf (checkOf B / 256 : Nat), byteOf (checkOf B % 256 : Nat)].length := by simp at hk ⊢; omega
      rw [List.getElem_append_right hkb] at hx
      generalize [byteOf (checkOf B / 256 : Nat), byteOf (checkOf B % 256 : Nat)] = z at *
      apply hx
      have := congrArg (fun l => l[k - B.length]?) t2
      simp only [List.getElem?_set_self hk2, List.getElem?_eq_getElem hk2, Option.some.injEq] at this
      exact this
end Go.Proofs.YtfapgfpidhbhaaaDoor

namespace Go.Proofs.YtfapgfpidhbhaaaDoor
open Go.RowKit

/-- a slice of whole numbers that came in -/
structure IntsAt (w : World) (a : Option Addr) (len cap : Nat) (zs : List Int) : Prop where
  len1 : len ≤ zs.length
  lenm : len < 4611686018427387904
  wf : ∀ n ∈ zs, -9223372036854775808 ≤ n ∧ n < 9223372036854775808
  cells : ∀ i, i < len → ∃ b o, a = some ⟨b, o, none⟩ ∧ w.cell? ⟨b, o + i, none⟩ = some (.int .i64 (zs.getD i 0)) ∧ b < w.heap.size

theorem IntsAt.kept {w w' : World} {a : Option Addr} {len cap : Nat} {zs : List Int} (h : IntsAt w a len cap zs) (hb : Below w.heap.size w w') : IntsAt w' a len cap zs :=
  ⟨h.len1, h.lenm, h.wf, fun i hi => by
    obtain ⟨b, o, h1, h2, h3⟩ := h.cells i hi
    exact ⟨b, o, h1, (hb.cell (p := ⟨b, o + i, none⟩) h3).trans h2, Nat.lt_of_lt_of_le h3 hb.size⟩⟩

set_option maxRecDepth 100000 in
theorem pick_any (w : World) (c n : Int) (h0 : -9223372036854775808 ≤ c) (h1 : c < 9223372036854775808) (hn : 1 ≤ n) (hn1 : n ≤ 1073741824) :
    Calls Tryd.prog 11 #[.int .i64 c, .int .i64 n] w fun e w' => ∃ r : Int, e = .returned (.int .i64 r) ∧ 0 ≤ r ∧ r < n ∧ w' = w := by
  have hn0 : ¬ n = 0 := by omega
  by_cases hc : c < 0
  · have hm0 : 0 ≤ (-(c + 1)) % n := Int.emod_nonneg _ (by omega)
    have hm1 : (-(c + 1)) % n < n := Int.emod_lt_of_pos _ (by omega)
    go_enter Tryd.func11, Tryd.ntmps11
    go_wp2
    go_ret
    have e : -((c + 1).tmod n) = (-(c + 1)) % n := by rw [← Int.neg_tmod, Int.tmod_eq_emod_of_nonneg (by omega)]
    exact ⟨_, rfl, by rw [e]; exact hm0, by rw [e]; exact hm1, rfl⟩
  · have hm0 : 0 ≤ c % n := Int.emod_nonneg _ (by omega)
    have hm1 : c % n < n := Int.emod_lt_of_pos _ (by omega)
    go_enter Tryd.func11, Tryd.ntmps11
    go_wp2
    go_ret
    exact ⟨c % n, rfl, hm0, hm1, rfl⟩

set_option maxRecDepth 100000 in
set_option maxHeartbeats 2000000 in
theorem bytes_any (w : World) (s : ByteArray) (i n : Nat) (hs : s.size < 4611686018427387904) (hi : i ≤ 1000) (hn : n ≤ 1000) :
    Calls Tryd.prog 20 #[.string s, .int .i64 i, .int .i64 n] w fun e w' => ∃ d : ByteArray, e = .returned (.string d) ∧ d.size = n ∧ Below w.heap.size w w' := by
  have hmk := make_row w .i64 .i64 n (by omega)
  have hnI : (n : Int) ≤ 1000 := by omega
  have hiI : (i : Int) ≤ 1000 := by omega
  go_enter Tryd.func20, Tryd.ntmps20
  go_wp2
  go_loopw [8] (fun k wr => ∃ q : Nat, q ≤ n ∧ k = .int .i64 q ∧ (∃ l : List UInt8, l.length = n ∧ wr.heap[w.heap.size]? = some (.cells (bytesV l) 5 (0, 0))) ∧ Below w.heap.size w wr) (fun k _ => n - (intOf k).toNat)
  case atStart => exact ⟨0, by omega, rfl, ⟨List.replicate n 0, by simp, by rw [heap_alloc_new]⟩, (Below.refl _ _).alloc (Nat.le_refl _) _⟩
  case round =>
    obtain ⟨q, hq, rfl, ⟨l, hl, hrow⟩, hbel⟩ := hrel
    by_cases hlt : q < n
    · have hltI : (q : Int) < (n : Int) := by omega
      by_cases hs0 : s.size = 0
      · have hs0' : (s.size : Int) = 0 := by omega
        go_wp2
        go_roundw
        case rel => exact ⟨q + 1, by omega, by go_num, ⟨l, hl, hrow⟩, hbel⟩
        case measure => simp [intOf]; omega
      · have hs0' : (0 : Int) < (s.size : Int) := by omega
        have hsn : ¬ (s.size : Int) = 0 := by omega
        have hm1 : ((i : Int) + q) % s.size < s.size := Int.emod_lt_of_pos _ (by omega)
        have hm0 : 0 ≤ ((i : Int) + q) % s.size := Int.emod_nonneg _ (by omega)
        have hmN : (i + q) % s.size < s.size := Nat.mod_lt _ (by omega)
        have hf : ∀ o, wr.frozen? ⟨w.heap.size, o, none⟩ = false := fun o => free_of_heap hrow
        have hc : wr.cell? ⟨w.heap.size, q, none⟩ = some (.int .u8 ((l.getD q 0).toNat : Int)) := by rw [cell_of_heap hrow]; exact bytesV_get l q (by omega)
        have HR : Hid (wr.heap[w.heap.size]? = some (.cells (bytesV l) 5 (0, 0))) := hrow
        generalize (l.getD q 0).toNat = old at *
        clear hrow
        go_wp2
        go_roundw
        case rel =>
          refine ⟨q + 1, by omega, by go_num, ⟨l.set q (s[(i + q) % s.size]), by simpa using hl, ?_⟩, hbel.setCell (Nat.le_refl _) _⟩
          rw [heap_setCell_at _ _ _ _ _ _ _ HR.out, bytesV_set]
        case measure => simp [intOf]; omega
    · have hqn : q = n := by omega
      subst hqn
      have hcv := conv_row wr w.heap.size 0 q q l _ hrow (by omega)
      rw [List.drop_zero, List.take_of_length_le (by omega)] at hcv
      obtain ⟨dd, hdd⟩ : ∃ dd : ByteArray, dd = ⟨l.toArray⟩ := ⟨_, rfl⟩
      have hds : dd.size = q := by rw [hdd]; show l.toArray.size = q; simp [hl]
      rw [← hdd] at hcv
      clear hdd hrow
      go_wp2
      go_ret
      exact ⟨dd, rfl, hds, hbel⟩

theorem bytes_at (w : World) (s : ByteArray) (I N : Int) (hs : s.size < 4611686018427387904) (hi0 : 0 ≤ I) (hi : I ≤ 1000) (hn0 : 0 ≤ N) (hn : N ≤ 1000) :
    Calls Tryd.prog 20 #[.string s, .int .i64 I, .int .i64 N] w fun e w' => ∃ d : ByteArray, e = .returned (.string d) ∧ (d.size : Int) = N ∧ Below w.heap.size w w' := by
  obtain ⟨i, rfl⟩ : ∃ i : Nat, I = i := ⟨I.toNat, by omega⟩
  obtain ⟨n, rfl⟩ : ∃ n : Nat, N = n := ⟨N.toNat, by omega⟩
  refine (bytes_any w s i n hs (by omega) (by omega)).mono ?_
  rintro e w' ⟨d, rfl, hd, hb⟩
  exact ⟨d, rfl, by omega, hb⟩

/-- what 'pieces' makes: a few segments, one behind the other -/
structure Pieces (P : List Seg) (top : Int) : Prop where
  size : ∀ s ∈ P, 0 ≤ s.addr ∧ 1 ≤ s.size ∧ s.size ≤ 12 ∧ (s.data.size : Int) ≤ s.size ∧ s.addr + s.size ≤ top
  order : P.Pairwise fun s t => s.addr + s.size ≤ t.addr

theorem Pieces.snoc {P : List Seg} {top : Int} (h : Pieces P top) (x z : Int) (d : ByteArray) (h0 : 0 ≤ top) (hx : top ≤ x) (hz1 : 1 ≤ z) (hz2 : z ≤ 12) (hd : (d.size : Int) ≤ z) : Pieces (P ++ [⟨x, z, d⟩]) (x + z) := by
  refine ⟨?_, ?_⟩
  · intro s hs
    rcases List.mem_append.1 hs with hs | hs
    · have := h.size s hs; exact ⟨this.1, this.2.1, this.2.2.1, this.2.2.2.1, by omega⟩
    · simp only [List.mem_singleton] at hs
      subst hs
      exact ⟨by dsimp only; omega, hz1, hz2, hd, by dsimp only; omega⟩
  · rw [List.pairwise_append]
    refine ⟨h.order, by simp, ?_⟩
    intro s hs t ht
    simp only [List.mem_singleton] at ht
    subst ht
    have := (h.size s hs).2.2.2.2
    dsimp only; omega

end Go.Proofs.YtfapgfpidhbhaaaDoor

namespace Go.Proofs.YtfapgfpidhbhaaaDoor
open Go.RowKit

set_option maxRecDepth 100000 in
theorem twinPack_any (w : World) (v e : Int) (a : Option Addr) (b o cap : Nat) (l : List Seg) (ha : l ≠ [] → a = some ⟨b, o, none⟩) (hl : SegsAt w b o l) (hok : ∀ s ∈ l, s.ok) (hb : l ≠ [] → b < w.heap.size) (hlen : l.length < 4611686018427387904) :
    Calls Tryd.prog 19 #[.int .i64 v, .int .i64 e, .slice a l.length cap] w fun en w' => en = .returned (.tuple #[.string (mk (packM v e l).1), .int .i64 (packM v e l).2]) ∧ Below w.heap.size w w' := by
  have HP := pack_any w v e a b o cap l ha hl hok hb hlen
  generalize mk (packM v e l).1 = r1 at *
  generalize (packM v e l).2 = r2 at *
  go_enter Tryd.func19, Tryd.ntmps19
  go_wp2_with (go_at_call 47; refine HP.mono ?_; rintro en w2 ⟨rfl, hb2⟩)
  go_ret2
  exact ⟨rfl, hb2⟩
theorem lay_drawn {l : List Seg} {m : Mem} (hf : ∀ s ∈ l, s.fits = true) (h : layAll l = some m) : drawAll l = (m, true) := by
  have := lay_draw l hf
  rw [h] at this
  split at this
  · rename_i hc
    exact Prod.ext (Option.some.inj this).symm hc
  · cases this

/-- a list of segments that lies in the store -/
structure SegsIn (w : World) (a : Option Addr) (l : List Seg) : Prop where
  at' : ∃ b o, (l ≠ [] → a = some ⟨b, o, none⟩) ∧ SegsAt w b o l ∧ (l ≠ [] → b < w.heap.size)
theorem SegsIn.kept {w w' : World} {a : Option Addr} {l : List Seg} (h : SegsIn w a l) (hb : Below w.heap.size w w') : SegsIn w' a l := by
  obtain ⟨b, o, h1, h2, h3⟩ := h.at'
  exact ⟨b, o, h1, h2.kept h3 hb, fun h => Nat.lt_of_lt_of_le (h3 h) hb.size⟩
theorem SegsIn.of_own {w : World} {base n cap : Nat} {a : Option Addr} {l : List Seg} (h : w.ownsRow base 59 3 (.slice a n cap) n (segCells l)) : SegsIn w a l := by
  obtain ⟨_, a1, b1, cap1, hv, h1, h2, h3, _⟩ := SegsAt_of_own h
  cases hv
  exact ⟨b1, 0, h1, h2, fun h => (h3 h).1⟩

theorem pack_in (w : World) (v e : Int) (a : Option Addr) (cap : Nat) (l : List Seg) (m : Mem) (h : SegsIn w a l) (hfit : ∀ s ∈ l, s.fits = true) (hl : layAll l = some m) (h1 : 1 ≤ l.length) (h8 : l.length ≤ 8) (hm : Made v e m) :
    Calls Tryd.prog 19 #[.int .i64 v, .int .i64 e, .slice a l.length cap] w fun en w' => en = .returned (.tuple #[.string (mk (textOf v e (runsOf m))), .int .i64 0]) ∧ Below w.heap.size w w' := by
  obtain ⟨b, o, q1, q2, q3⟩ := h.at'
  have hok : ∀ s ∈ l, s.ok := by
    intro s hs
    obtain ⟨f1, f2, f3, f4⟩ := (Seg.fits_iff _).1 (hfit s hs)
    exact ⟨by omega, by omega, by omega, by omega, by omega⟩
  have := twinPack_any w v e a b o cap l q1 q2 hok q3 (by omega)
  rw [pack_lays hm hfit h1 h8 hl] at this
  exact this

end Go.Proofs.YtfapgfpidhbhaaaDoor
