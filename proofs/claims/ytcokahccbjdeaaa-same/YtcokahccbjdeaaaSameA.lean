import Derived.Test.YtcokahccbjdeaaaThruB
namespace Go.Proofs.Ytcokahccbjdeaaa

theorem lay_apart (P : List Seg) (hf : ∀ s ∈ P, s.fits = true) (ho : P.Pairwise fun s t => s.addr + s.size ≤ t.addr ∨ t.addr + t.size ≤ s.addr) : ∀ k, k ≤ P.length → ∃ m, layAll (P.take k) = some m := by
  intro k
  induction k with
  | zero => intro _; exact ⟨mem0, rfl⟩
  | succ k ih =>
    intro hk
    obtain ⟨m, hm⟩ := ih (by omega)
    have hlt : k < P.length := by omega
    refine ⟨m.putS P[k], ?_⟩
    rw [layAll_snoc P k hlt m hm]
    refine step_some (layAll_wf hm) (hf _ (List.getElem_mem hlt)) ?_
    intro a ha
    have h1 := coverN_lay hm a
    have h2 : coverN (P.take k) a = 0 := by
      apply coverN_zero
      intro s hs
      obtain ⟨i, hi, rfl⟩ := List.mem_iff_getElem.1 hs
      have hi2 : i < k := by simp at hi; omega
      rw [List.getElem_take]
      have := List.pairwise_iff_getElem.1 ho i k (by omega) hlt hi2
      unfold Seg.covers at ha ⊢
      simp only [Bool.and_eq_true, decide_eq_true_eq] at ha
      rw [Bool.and_eq_false_iff]
      rcases this with h | h
      · right; exact decide_eq_false (by omega)
      · left; exact decide_eq_false (by omega)
    rw [h2] at h1
    cases hc : m.c a
    · rfl
    · rw [hc] at h1; simp at h1

/-- Q: the segments of P the other way about, some of them cut -/
structure Halved (P Q : List Seg) : Prop where
  fit : ∀ s ∈ Q, s.fits = true
  desc : Q.Pairwise fun s t => t.addr + t.size ≤ s.addr
  cover : ∀ a : Nat, coverN Q a = coverN P a
  byte : ∀ s ∈ Q, ∀ a : Nat, s.covers a = true → ∃ t ∈ P, t.covers a = true ∧ t.data.data.toList.getD (a - t.addr.toNat) 0 = s.data.data.toList.getD (a - s.addr.toNat) 0
  lower : ∀ s ∈ Q, ∃ t ∈ P, t.addr ≤ s.addr

theorem Halved.nil : Halved [] [] := ⟨by simp, by simp, fun _ => rfl, by simp, by simp⟩

theorem coverN_append (l r : List Seg) (a : Int) : coverN (l ++ r) a = coverN l a + coverN r a := by
  unfold coverN; rw [List.filter_append, List.length_append]

/-- one segment more, as it is -/
theorem Halved.keep {P Q : List Seg} (h : Halved P Q) (s : Seg) (hs : s.fits = true) (hlow : ∀ t ∈ P, s.addr + s.size ≤ t.addr) : Halved (s :: P) (Q ++ [s]) := by
  refine ⟨?_, ?_, ?_, ?_, ?_⟩
  · intro x hx
    rcases List.mem_append.1 hx with hx | hx
    · exact h.fit x hx
    · simp only [List.mem_singleton] at hx; rw [hx]; exact hs
  · rw [List.pairwise_append]
    refine ⟨h.desc, by simp, ?_⟩
    intro x hx y hy
    simp only [List.mem_singleton] at hy
    subst hy
    obtain ⟨t, ht, h1⟩ := h.lower x hx
    have := hlow t ht
    omega
  · intro a
    rw [coverN_append, h.cover, coverN_cons, coverN_cons]
    have : coverN [] (a : Int) = 0 := rfl
    omega
  · intro x hx a ha
    rcases List.mem_append.1 hx with hx | hx
    · obtain ⟨t, ht, h1, h2⟩ := h.byte x hx a ha
      exact ⟨t, by simp [ht], h1, h2⟩
    · simp only [List.mem_singleton] at hx
      subst hx
      exact ⟨x, by simp, ha, rfl⟩
  · intro x hx
    rcases List.mem_append.1 hx with hx | hx
    · obtain ⟨t, ht, h1⟩ := h.lower x hx
      exact ⟨t, by simp [ht], h1⟩
    · simp only [List.mem_singleton] at hx
      exact ⟨s, by simp, by rw [hx]; omega⟩

/-- one segment more, cut in two -/
theorem Halved.cut {P Q : List Seg} (h : Halved P Q) (x z n : Int) (d da db : ByteArray) (hs : (⟨x, z, d⟩ : Seg).fits = true) (hlow : ∀ t ∈ P, x + z ≤ t.addr) (hn1 : 1 ≤ n) (hn2 : n < z)
    (ha : (da.size : Int) ≤ n) (hb : (db.size : Int) ≤ z - n) (hda : ∀ j, j < n.toNat → da.data.toList.getD j 0 = d.data.toList.getD j 0) (hdb : ∀ j, db.data.toList.getD j 0 = d.data.toList.getD (n.toNat + j) 0) :
    Halved (⟨x, z, d⟩ :: P) (Q ++ [⟨x + n, z - n, db⟩, ⟨x, n, da⟩]) := by
  obtain ⟨f1, f2, f3, f4⟩ := (Seg.fits_iff _).1 hs
  dsimp only at f1 f2 f3 f4
  refine ⟨?_, ?_, ?_, ?_, ?_⟩
  · intro y hy
    rcases List.mem_append.1 hy with hy | hy
    · exact h.fit y hy
    · simp only [List.mem_cons, List.not_mem_nil, or_false] at hy
      rcases hy with rfl | rfl
      · rw [Seg.fits_iff]; dsimp only; omega
      · rw [Seg.fits_iff]; dsimp only; omega
  · rw [List.pairwise_append]
    refine ⟨h.desc, ?_, ?_⟩
    · simp only [List.pairwise_cons, List.mem_singleton, forall_eq, List.not_mem_nil, false_implies, implies_true, List.Pairwise.nil, and_true]
      omega
    · intro y hy u hu
      obtain ⟨t, ht, h1⟩ := h.lower y hy
      have := hlow t ht
      simp only [List.mem_cons, List.not_mem_nil, or_false] at hu
      rcases hu with rfl | rfl
      · dsimp only; omega
      · dsimp only; omega
  · intro a
    rw [coverN_append, h.cover, coverN_cons, coverN_cons, coverN_cons]
    have e0 : coverN [] (a : Int) = 0 := rfl
    have e : (if (⟨x, z, d⟩ : Seg).covers (a : Int) then 1 else 0) = (if (⟨x + n, z - n, db⟩ : Seg).covers (a : Int) then 1 else 0) + (if (⟨x, n, da⟩ : Seg).covers (a : Int) then 1 else 0) := by
      unfold Seg.covers
      simp only [Bool.and_eq_true, decide_eq_true_eq]
      by_cases h1 : x ≤ (a : Int) ∧ (a : Int) < x + n
      · rw [if_pos (by omega), if_neg (by omega), if_pos (by omega)]
      · by_cases h2 : x + n ≤ (a : Int) ∧ (a : Int) < x + n + (z - n)
        · rw [if_pos (by omega), if_pos (by omega), if_neg (by omega)]
        · rw [if_neg (by omega), if_neg (by omega), if_neg (by omega)]
    omega
  · intro y hy a hc
    rcases List.mem_append.1 hy with hy | hy
    · obtain ⟨t, ht, h1, h2⟩ := h.byte y hy a hc
      exact ⟨t, by simp [ht], h1, h2⟩
    · refine ⟨⟨x, z, d⟩, by simp, ?_⟩
      simp only [List.mem_cons, List.not_mem_nil, or_false] at hy
      unfold Seg.covers at hc ⊢
      simp only [Bool.and_eq_true, decide_eq_true_eq] at hc ⊢
      rcases hy with rfl | rfl
      · dsimp only at hc ⊢
        refine ⟨by omega, ?_⟩
        rw [hdb, show n.toNat + (a - (x + n).toNat) = a - x.toNat by omega]
      · dsimp only at hc ⊢
        refine ⟨by omega, ?_⟩
        rw [hda _ (by omega)]
  · intro y hy
    rcases List.mem_append.1 hy with hy | hy
    · obtain ⟨t, ht, h1⟩ := h.lower y hy
      exact ⟨t, by simp [ht], h1⟩
    · refine ⟨⟨x, z, d⟩, by simp, ?_⟩
      simp only [List.mem_cons, List.not_mem_nil, or_false] at hy
      rcases hy with rfl | rfl
      · dsimp only; omega
      · dsimp only; omega

theorem Halved.lay {P Q : List Seg} {m : Mem} (h : Halved P Q) (hm : layAll P = some m) : layAll Q = some m := by
  obtain ⟨m1, hm1⟩ := lay_apart Q h.fit (h.desc.imp fun hst => Or.inr hst) Q.length (Nat.le_refl _)
  rw [List.take_of_length_le (Nat.le_refl _)] at hm1
  rw [hm1]
  congr 1
  have hcov : ∀ a, m1.c a = m.c a := by
    intro a
    have h1 := coverN_lay hm1 a
    have h2 := coverN_lay hm a
    rw [h.cover, h2] at h1
    cases e1 : m1.c a <;> cases e2 : m.c a <;> rw [e1, e2] at h1 <;> simp at h1 ⊢
  refine mem_ext (layAll_wf hm1) (layAll_wf hm) (fun a _ => hcov a) ?_
  intro a _
  cases hc : m.c a
  · rw [layAll_clean hm a hc, layAll_clean hm1 a (by rw [hcov, hc])]
  · have h1 := coverN_lay hm1 a
    rw [hcov, hc, if_pos rfl] at h1
    have hpos : 0 < (Q.filter (·.covers (a : Int))).length := by unfold coverN at h1; omega
    obtain ⟨s, hs⟩ := List.exists_mem_of_length_pos hpos
    have hs2 := List.mem_filter.1 hs
    obtain ⟨t, ht, ht1, ht2⟩ := h.byte s hs2.1 a hs2.2
    rw [lay_b hm1 a s hs2.1 hs2.2, lay_b hm a t ht ht1, ht2]

/-- another first byte of one of them, another picture -/
theorem other_mem {P P' : List Seg} {m m' : Mem} (hm : layAll P = some m) (hm' : layAll P' = some m') {s s' : Seg} (hs : s ∈ P) (hs' : s' ∈ P') (ha : s'.addr = s.addr) (h0 : 0 ≤ s.addr) (h1 : 1 ≤ s.size) (h1' : 1 ≤ s'.size)
    (hd : s'.data.data.toList.getD 0 0 ≠ s.data.data.toList.getD 0 0) : m ≠ m' := by
  intro e
  subst e
  have e1 := lay_b hm s.addr.toNat s hs (by unfold Seg.covers; simp only [Bool.and_eq_true, decide_eq_true_eq]; omega)
  have e2 := lay_b hm' s.addr.toNat s' hs' (by unfold Seg.covers; simp only [Bool.and_eq_true, decide_eq_true_eq]; omega)
  rw [Nat.sub_self] at e1
  rw [ha, Nat.sub_self] at e2
  exact hd (by rw [← e1, ← e2])

theorem pieces_set {P : List Seg} {top : Int} (h : Pieces P top) (k : Nat) (hk : k < P.length) (d : ByteArray) (hd : (d.size : Int) ≤ P[k].size) : Pieces (P.set k ⟨P[k].addr, P[k].size, d⟩) top := by
  refine ⟨?_, ?_⟩
  · intro s hs
    rcases List.mem_or_eq_of_mem_set hs with hs | rfl
    · exact h.size s hs
    · have := h.size P[k] (List.getElem_mem hk)
      exact ⟨this.1, this.2.1, this.2.2.1, hd, this.2.2.2.2⟩
  · rw [List.pairwise_iff_getElem]
    intro i j hi hj hij
    simp only [List.length_set] at hi hj
    have := List.pairwise_iff_getElem.1 h.order i j hi hj hij
    have ea : ∀ i (hi : i < P.length), ((P.set k ⟨P[k].addr, P[k].size, d⟩)[i]'(by simpa using hi)).addr = P[i].addr ∧ ((P.set k ⟨P[k].addr, P[k].size, d⟩)[i]'(by simpa using hi)).size = P[i].size := by
      intro i hi
      rw [List.getElem_set]
      split
      · rename_i e; subst e; exact ⟨rfl, rfl⟩
      · exact ⟨rfl, rfl⟩
    rw [(ea i hi).1, (ea i hi).2, (ea j hj).1]
    exact this
theorem segCells_set (P : List Seg) : ∀ (k : Nat) (hk : k < P.length) (d : ByteArray), (segCells P).set (k * 3 + 2) (.string d) = segCells (P.set k ⟨P[k].addr, P[k].size, d⟩) := by
  induction P with
  | nil => intro k hk; simp at hk
  | cons s r ih =>
    intro k hk d
    cases k with
    | zero => rfl
    | succ k =>
      have := ih k (by simpa using hk) d
      rw [show (k + 1) * 3 + 2 = (k * 3 + 2) + 3 by omega]
      show .int .i64 s.addr :: .int .i64 s.size :: .string s.data :: (segCells r).set (k * 3 + 2) (.string d) = _
      rw [this]
      rfl
end Go.Proofs.Ytcokahccbjdeaaa
