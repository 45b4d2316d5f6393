import Derived.Test.YtcokahccbjdeaaaUnC
namespace Go.Proofs.Ytcokahccbjdeaaa

theorem byteOf_toNat (n : Int) (h0 : 0 ≤ n) (h1 : n < 256) : ((byteOf n).toNat : Int) = n := by
  unfold byteOf
  rw [UInt8.toNat_ofNat']
  omega

structure Seg.small (s : Seg) : Prop where
  a0 : 0 ≤ s.addr
  a1 : s.addr < 128
  z0 : 0 ≤ s.size
  z1 : s.size ≤ 128
  d1 : s.data.size ≤ 128

theorem parse_one (A B : List UInt8) (s : Seg) :
    (A ++ (runBytes s ++ B)).getD A.length 0 = byteOf s.addr ∧ (A ++ (runBytes s ++ B)).getD (A.length + 1) 0 = byteOf s.size ∧ (A ++ (runBytes s ++ B)).getD (A.length + 2) 0 = byteOf s.data.size ∧
      ((A ++ (runBytes s ++ B)).drop (A.length + 3)).take s.data.size = s.data.data.toList ∧ A.length + 3 + s.data.size ≤ (A ++ (runBytes s ++ B)).length := by
  have hl : s.data.data.toList.length = s.data.size := rfl
  refine ⟨?_, ?_, ?_, ?_, ?_⟩
  · simp [List.getD_eq_getElem?_getD, runBytes]
  · simp [List.getD_eq_getElem?_getD, runBytes]
  · simp [List.getD_eq_getElem?_getD, runBytes]
  · rw [← List.drop_drop, List.drop_left]
    simp only [runBytes, List.cons_append, List.nil_append, List.drop_succ_cons, List.drop_zero]
    rw [List.take_append_of_le_length (by omega), List.take_of_length_le (by omega)]
  · simp only [List.length_append, runBytes, List.length_cons, List.length_nil, hl]; omega

theorem parse_text (pre post : List UInt8) (R : List Seg) (hR : ∀ s ∈ R, s.small) : ∀ k, k ≤ R.length → parseK (pre ++ (R.flatMap runBytes ++ post)) pre.length k = some (R.take k, pre.length + ((R.take k).flatMap runBytes).length) := by
  intro k
  induction k with
  | zero => intro _; simp [parseK]
  | succ k ih =>
    intro hk
    have hlt : k < R.length := by omega
    have hs := hR R[k] (List.getElem_mem hlt)
    have hsplit : pre ++ (R.flatMap runBytes ++ post) = (pre ++ (R.take k).flatMap runBytes) ++ (runBytes R[k] ++ ((R.drop (k + 1)).flatMap runBytes ++ post)) := by
      have e : R = R.take k ++ (R[k] :: R.drop (k + 1)) := by rw [List.getElem_cons_drop, List.take_append_drop]
      have e2 : R.flatMap runBytes = (R.take k).flatMap runBytes ++ (runBytes R[k] ++ (R.drop (k + 1)).flatMap runBytes) := by
        conv => lhs; rw [e]
        rw [List.flatMap_append, List.flatMap_cons]
      rw [e2]
      simp only [List.append_assoc]
    obtain ⟨p1, p2, p3, p4, p5⟩ := parse_one (pre ++ (R.take k).flatMap runBytes) ((R.drop (k + 1)).flatMap runBytes ++ post) R[k]
    rw [← hsplit] at p1 p2 p3 p4 p5
    have hA : (pre ++ (R.take k).flatMap runBytes).length = pre.length + ((R.take k).flatMap runBytes).length := by simp
    rw [hA] at p1 p2 p3 p4 p5
    have hn : (byteOf (R[k].data.size : Int)).toNat = R[k].data.size := by
      have := byteOf_toNat (R[k].data.size : Int) (by omega) (by have := hs.d1; omega)
      omega
    simp only [parseK, ih (by omega), p1, p2, p3, hn, p4]
    rw [if_neg (by omega), if_neg (by omega)]
    have ha : ((byteOf R[k].addr).toNat : Int) = R[k].addr := byteOf_toNat _ hs.a0 (by have := hs.a1; omega)
    have hz : ((byteOf R[k].size).toNat : Int) = R[k].size := byteOf_toNat _ hs.z0 (by have := hs.z1; omega)
    rw [ha, hz, mk_list, List.take_succ_eq_append_getElem hlt, List.flatMap_append]
    congr 2
    have hl : R[k].data.data.toList.length = R[k].data.size := rfl
    simp only [List.flatMap_cons, List.flatMap_nil, List.append_nil, List.length_append, runBytes, List.length_cons, List.length_nil, hl]
    omega

theorem runsOf_small {m : Mem} (h : m.wf) : ∀ s ∈ runsOf m, s.small := by
  intro s hs
  have h2 := (runsOf_ok h s hs).2
  unfold runsOf runsTo at hs
  obtain ⟨a, ha, rfl⟩ := List.mem_map.1 hs
  have ha' : a < 128 := by have := (List.mem_filter.1 ha).1; simpa using this
  have h1 := endFrom_le m a (by omega)
  have h3 := endFrom_ge m a
  refine ⟨?_, ?_, ?_, ?_, h2⟩ <;> simp only [runOf] <;> omega

/-- what Pack asks of its arguments, where it is content -/
theorem pack_ok {v e : Int} {rs : List Seg} {l : List UInt8} (h : packM v e rs = (l, 0)) :
    ∃ m, 0 ≤ v ∧ v ≤ 65535 ∧ allFit rs = true ∧ layAll rs = some m ∧ 0 ≤ e ∧ e < 128 ∧ m.c e.toNat = true ∧ l = textOf v e (runsOf m) ∧ l.length ≤ 120 := by
  unfold packM at h
  split at h
  · simp at h
  · rename_i hv
    split at h
    · simp at h
    · rename_i haf
      split at h
      · simp at h
      · rename_i m hm
        split at h
        · simp at h
        · rename_i hc
          split at h
          · simp at h
          · rename_i hb
            simp only [Prod.mk.injEq, and_true] at h
            have hc' : 0 ≤ e ∧ e < 128 ∧ m.c e.toNat = true := Classical.not_not.1 hc
            exact ⟨m, by omega, by omega, by simpa using haf, hm, hc'.1, hc'.2.1, hc'.2.2, h.symm, by rw [← h]; omega⟩

theorem textOf_parts (v e : Int) (R : List Seg) : ∃ c0 c1, textOf v e R = [84, 66, byteOf (v / 256), byteOf (v % 256), byteOf e, byteOf R.length] ++ (R.flatMap runBytes ++ [c0, c1]) := by
  exact ⟨byteOf (checkOf (bodyOf v e R) / 256 : Nat), byteOf (checkOf (bodyOf v e R) % 256 : Nat), by unfold textOf bodyOf; rw [List.append_assoc]⟩

theorem dec_text (v e : Int) (R : List Seg) (hR : ∀ s ∈ R, s.small) (hl : R.length ≤ 128) (hv0 : 0 ≤ v) (hv1 : v ≤ 65535) (he0 : 0 ≤ e) (he1 : e < 128) (hlen : (textOf v e R).length ≤ 120) :
    decM (textOf v e R) = some (v, e, R) ∧ (textOf v e R).length ≥ 8 ∧ parseK (textOf v e R) 6 ((textOf v e R).getD 5 0).toNat = some (R, 6 + (R.flatMap runBytes).length) ∧
      (((textOf v e R).getD 2 0).toNat : Int) * (256 : Int) + ((textOf v e R).getD 3 0).toNat = v ∧ (((textOf v e R).getD 4 0).toNat : Int) = e := by
  obtain ⟨c0, c1, ht⟩ := textOf_parts v e R
  have hb2 : ((byteOf (v / 256)).toNat : Int) = v / 256 := byteOf_toNat _ (by omega) (by omega)
  have hb3 : ((byteOf (v % 256)).toNat : Int) = v % 256 := byteOf_toNat _ (by omega) (by omega)
  have hb4 : ((byteOf e).toNat : Int) = e := byteOf_toNat _ he0 (by omega)
  have hb5 : (byteOf (R.length : Int)).toNat = R.length := by
    have := byteOf_toNat (R.length : Int) (by omega) (by omega)
    omega
  have g2 : (textOf v e R).getD 2 0 = byteOf (v / 256) := by rw [ht]; rfl
  have g3 : (textOf v e R).getD 3 0 = byteOf (v % 256) := by rw [ht]; rfl
  have g4 : (textOf v e R).getD 4 0 = byteOf e := by rw [ht]; rfl
  have g5 : (textOf v e R).getD 5 0 = byteOf R.length := by rw [ht]; rfl
  have hlen2 : (textOf v e R).length = (R.flatMap runBytes).length + 8 := by rw [ht]; simp only [List.length_append, List.length_cons, List.length_nil]; omega
  have hmid : ((textOf v e R).drop 6).take ((textOf v e R).length - 8) = R.flatMap runBytes := by
    rw [hlen2, Nat.add_sub_cancel, ht]
    show (R.flatMap runBytes ++ [c0, c1]).take (R.flatMap runBytes).length = _
    rw [List.take_left]
  have hpd := parse_text [] [] R hR R.length (Nat.le_refl _)
  simp only [List.nil_append, List.append_nil, List.length_nil, Nat.zero_add, List.take_of_length_le (Nat.le_refl _)] at hpd
  have hpr := parse_text [84, 66, byteOf (v / 256), byteOf (v % 256), byteOf e, byteOf R.length] [c0, c1] R hR R.length (Nat.le_refl _)
  rw [← ht, List.take_of_length_le (Nat.le_refl _)] at hpr
  refine ⟨?_, by omega, ?_, ?_, ?_⟩
  · unfold decM
    rw [if_neg (by omega), hmid, g5, hb5, hpd, g2, g3, g4, hb2, hb3, hb4]
    simp only [Option.some.injEq, Prod.mk.injEq, and_true]
    omega
  · rw [g5, hb5]; exact hpr
  · rw [g2, g3, hb2, hb3]; omega
  · rw [g4, hb4]

theorem unpack_eq (l : List UInt8) : unpackM l = unpackR l := by
  have key : ∀ v e rs, packM v e rs = (l, 0) → ∃ m, (∀ s ∈ runsOf m, s.small) ∧ decM l = some (v, e, runsOf m) ∧ ¬ l.length < 6 ∧ (∃ p, parseK l 6 (l.getD 5 0).toNat = some (runsOf m, p)) ∧
      ((l.getD 2 0).toNat : Int) * (256 : Int) + (l.getD 3 0).toNat = v ∧ ((l.getD 4 0).toNat : Int) = e := by
    intro v e rs h
    obtain ⟨m, hv0, hv1, _, hm, he0, he1, _, hl, hlen⟩ := pack_ok h
    have hmw := layAll_wf hm
    obtain ⟨d1, d2, d3, d4, d5⟩ := dec_text v e (runsOf m) (runsOf_small hmw) (runsTo_length m 128) hv0 hv1 he0 he1 (by rw [← hl]; exact hlen)
    rw [← hl] at d1 d2 d3 d4 d5
    exact ⟨m, runsOf_small hmw, d1, by omega, ⟨_, d3⟩, d4, d5⟩
  unfold unpackM unpackR
  cases hd : decM l with
  | none =>
    dsimp only
    split
    · rfl
    · split
      · rfl
      · rename_i rs p hp
        split
        · rename_i hpk
          obtain ⟨m, _, h1, _⟩ := key _ _ _ hpk
          rw [hd] at h1; cases h1
        · rfl
  | some q =>
    obtain ⟨v, e, rs⟩ := q
    dsimp only
    by_cases hpk : packM v e rs = (l, 0)
    · obtain ⟨m, _, h1, h2, ⟨p, h3⟩, h4, h5⟩ := key _ _ _ hpk
      rw [hd] at h1
      simp only [Option.some.injEq, Prod.mk.injEq, true_and] at h1
      rw [if_pos hpk, if_neg h2, h3, h4, h5, ← h1]
      dsimp only
      rw [if_pos hpk]
    · rw [if_neg hpk]
      split
      · rfl
      · split
        · rfl
        · rename_i rs' p hp
          split
          · rename_i hpk'
            obtain ⟨m, _, h1, _, ⟨p', h3⟩, _, _⟩ := key _ _ _ hpk'
            rw [hp] at h3
            have hrs : rs' = runsOf m := congrArg Prod.fst (Option.some.inj h3)
            rw [hd] at h1
            simp only [Option.some.injEq, Prod.mk.injEq] at h1
            obtain ⟨e1, e2, e3⟩ := h1
            rw [hrs, ← e1, ← e2, ← e3] at hpk'
            exact absurd hpk' hpk
          · rfl
end Go.Proofs.Ytcokahccbjdeaaa
