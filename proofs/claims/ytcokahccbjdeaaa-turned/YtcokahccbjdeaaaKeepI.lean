import Derived.Test.YtcokahccbjdeaaaKeepH
namespace Go.Proofs.Ytcokahccbjdeaaa

/-! counting: what the runs cover is what the segments cover -/
def sumTo (f : Nat → Nat) : Nat → Nat
  | 0 => 0
  | n + 1 => sumTo f n + f n
theorem sumTo_add (f g : Nat → Nat) (n : Nat) : sumTo (fun a => f a + g a) n = sumTo f n + sumTo g n := by
  induction n with
  | zero => rfl
  | succ n ih => simp only [sumTo, ih]; omega
theorem sumTo_congr {f g : Nat → Nat} (n : Nat) (h : ∀ a, a < n → f a = g a) : sumTo f n = sumTo g n := by
  induction n with
  | zero => rfl
  | succ n ih => simp only [sumTo]; rw [ih (fun a ha => h a (by omega)), h n (by omega)]
def sizes (l : List Seg) : Nat := (l.map fun s => s.size.toNat).sum
theorem sum_one (s : Seg) (h0 : 0 ≤ s.addr) (h1 : 0 ≤ s.size) (n : Nat) : sumTo (fun a => if s.covers (a : Int) then 1 else 0) n = min n (s.addr.toNat + s.size.toNat) - min n s.addr.toNat := by
  induction n with
  | zero => simp [sumTo]
  | succ n ih =>
    simp only [sumTo, ih]
    by_cases h : s.addr.toNat ≤ n ∧ n < s.addr.toNat + s.size.toNat
    · rw [if_pos (by unfold Seg.covers; simp only [Bool.and_eq_true, decide_eq_true_eq]; omega)]; omega
    · rw [if_neg (by unfold Seg.covers; simp only [Bool.and_eq_true, decide_eq_true_eq]; omega)]; omega
theorem coverN_cons (s : Seg) (r : List Seg) (a : Int) : coverN (s :: r) a = (if s.covers a then 1 else 0) + coverN r a := by
  unfold coverN
  by_cases hc : s.covers a
  · simp [hc]; omega
  · simp [hc]
theorem sum_cover (l : List Seg) (hf : ∀ s ∈ l, s.fits = true) : sumTo (fun a => coverN l (a : Int)) 128 = sizes l := by
  induction l with
  | nil =>
    have : ∀ n, sumTo (fun a => coverN [] (a : Int)) n = 0 := by
      intro n; induction n with
      | zero => rfl
      | succ n ih => simp only [sumTo, ih]; rfl
    rw [this]; rfl
  | cons s r ih =>
    have e : sumTo (fun a => coverN (s :: r) (a : Int)) 128 = sumTo (fun a => (if s.covers (a : Int) then 1 else 0) + coverN r (a : Int)) 128 := sumTo_congr _ fun a _ => coverN_cons s r a
    obtain ⟨f1, f2, f3, f4⟩ := (Seg.fits_iff _).1 (hf s (by simp))
    rw [e, sumTo_add, ih (fun t ht => hf t (by simp [ht])), sum_one s f1 (by omega)]
    simp only [sizes, List.map_cons, List.sum_cons]
    omega
theorem sizes_runs {P : List Seg} {m : Mem} (hf : ∀ s ∈ P, s.fits = true) (hm : layAll P = some m) : sizes (runsOf m) = sizes P := by
  have hw := layAll_wf hm
  have hr := lay_runs hw (layAll_clean hm)
  have hfr : ∀ s ∈ runsOf m, s.fits = true := by
    intro s hs
    unfold runsOf runsTo at hs
    obtain ⟨a, ha, rfl⟩ := List.mem_map.1 hs
    have h1 := List.mem_filter.1 ha
    have hst := h1.2
    simp only [isStart, Bool.and_eq_true] at hst
    exact runOf_fits hw a (by simpa using h1.1) hst.1
  rw [← sum_cover _ hf, ← sum_cover _ hfr]
  exact sumTo_congr _ fun a _ => by rw [coverN_lay hm, coverN_lay hr]
theorem runs_fit {m : Mem} (hw : m.wf) : ∀ s ∈ runsOf m, s.fits = true := by
  intro s hs
  unfold runsOf runsTo at hs
  obtain ⟨a, ha, rfl⟩ := List.mem_map.1 hs
  have h1 := List.mem_filter.1 ha
  have hst := h1.2
  simp only [isStart, Bool.and_eq_true] at hst
  exact runOf_fits hw a (by simpa using h1.1) hst.1

theorem sub_length {α : Type} [DecidableEq α] : ∀ (l k : List α), l.Nodup → (∀ x ∈ l, x ∈ k) → l.length ≤ k.length := by
  intro l
  induction l with
  | nil => intro k _ _; exact Nat.zero_le _
  | cons x r ih =>
    intro k hn hs
    rw [List.nodup_cons] at hn
    have hx : x ∈ k := hs x (by simp)
    have := ih (k.erase x) hn.2 (fun y hy => by
      have hyk := hs y (by simp [hy])
      have hne : y ≠ x := by rintro rfl; exact hn.1 hy
      exact (List.mem_erase_of_ne hne).2 hyk)
    rw [List.length_erase_of_mem hx] at this
    have : 0 < k.length := List.length_pos_of_mem hx
    simp only [List.length_cons]
    omega
theorem runs_count {P : List Seg} {m : Mem} (hf : ∀ s ∈ P, s.fits = true) (hm : layAll P = some m) : (runsOf m).length ≤ P.length := by
  have hlen : (runsOf m).length = ((List.range 128).filter (isStart m)).length := by simp [runsOf, runsTo]
  have hP : (P.map fun s : Seg => s.addr.toNat).length = P.length := by simp
  rw [hlen, ← hP]
  apply sub_length
  · exact List.Nodup.sublist List.filter_sublist List.nodup_range
  · intro b hb
    have h1 := List.mem_filter.1 hb
    have hst := h1.2
    simp only [isStart, Bool.and_eq_true, Bool.not_eq_true', Bool.and_eq_false_iff, decide_eq_false_iff_not] at hst
    have hc := coverN_lay hm b
    rw [hst.1, if_pos rfl] at hc
    have hpos : 0 < (P.filter (·.covers (b : Int))).length := by unfold coverN at hc; omega
    obtain ⟨s, hs⟩ := List.exists_mem_of_length_pos hpos
    have hs2 := List.mem_filter.1 hs
    have hcv := hs2.2
    obtain ⟨f1, f2, f3, f4⟩ := (Seg.fits_iff _).1 (hf s hs2.1)
    unfold Seg.covers at hcv
    simp only [Bool.and_eq_true, decide_eq_true_eq] at hcv
    rw [List.mem_map]
    refine ⟨s, hs2.1, ?_⟩
    rcases Nat.lt_or_ge s.addr.toNat b with hlt | hge
    · have hcb : m.c (b - 1) = true := by
        have h2 := coverN_lay hm (b - 1)
        have h3 : 0 < coverN P ((b - 1 : Nat) : Int) := by
          unfold coverN
          apply List.length_pos_of_mem (a := s)
          rw [List.mem_filter]
          refine ⟨hs2.1, ?_⟩
          unfold Seg.covers
          simp only [Bool.and_eq_true, decide_eq_true_eq]
          omega
        cases h4 : m.c (b - 1)
        · rw [h4] at h2; simp at h2; omega
        · rfl
      rcases hst.2 with h | h
      · omega
      · rw [h] at hcb; cases hcb
    · omega

theorem flat_length (l : List Seg) (hf : ∀ s ∈ l, s.fits = true) : (l.flatMap runBytes).length ≤ 3 * l.length + sizes l := by
  induction l with
  | nil => simp [sizes]
  | cons s r ih =>
    have := ih (fun t ht => hf t (by simp [ht]))
    obtain ⟨f1, f2, f3, f4⟩ := (Seg.fits_iff _).1 (hf s (by simp))
    have hd : s.data.data.toList.length = s.data.size := rfl
    simp only [List.flatMap_cons, List.length_append, List.length_cons, sizes, List.map_cons, List.sum_cons, runBytes, hd, List.length_nil] at *
    omega
theorem textOf_length (v e : Int) (l : List Seg) : (textOf v e l).length = 8 + (l.flatMap runBytes).length := by
  simp only [textOf, bodyOf, List.length_append, List.length_cons, List.length_nil]; omega
theorem sizes_le (P : List Seg) (h : ∀ s ∈ P, s.size ≤ 12) : sizes P ≤ 12 * P.length := by
  induction P with
  | nil => simp [sizes]
  | cons s r ih =>
    have := ih (fun t ht => h t (by simp [ht]))
    have := h s (by simp)
    simp only [sizes, List.map_cons, List.sum_cons, List.length_cons] at *
    omega

/-- what there is to know of an image that was made -/
structure Made (v e : Int) (m : Mem) : Prop where
  wf : m.wf
  clean : m.clean
  v0 : 0 ≤ v
  v1 : v ≤ 65535
  e0 : 0 ≤ e
  e1 : e < 128
  ce : m.c e.toNat = true
  len : (textOf v e (runsOf m)).length ≤ 120
  few : (runsOf m).length ≤ 8

theorem Made.dec {v e : Int} {m : Mem} (h : Made v e m) : decM (textOf v e (runsOf m)) = some (v, e, runsOf m) :=
  (dec_text v e (runsOf m) (runsOf_small h.wf) (runsTo_length m 128) h.v0 h.v1 h.e0 h.e1 h.len).1
theorem pack_lays {v e : Int} {m : Mem} (h : Made v e m) {Q : List Seg} (hf : ∀ s ∈ Q, s.fits = true) (h1 : 1 ≤ Q.length) (h8 : Q.length ≤ 8) (hm : layAll Q = some m) : packM v e Q = (textOf v e (runsOf m), 0) := by
  unfold packM
  have hfit : allFit Q = true := by
    unfold allFit
    rw [decide_eq_true h1, decide_eq_true h8, List.all_eq_true.2 hf]; rfl
  have := h.v0
  have := h.v1
  rw [if_neg (by omega), if_neg (by rw [hfit]; simp), hm]
  dsimp only
  have h120 := h.len
  rw [if_neg (by rw [h.ce]; have := h.e0; have := h.e1; simp; omega), if_neg (by omega)]
theorem Made.ne {v e : Int} {m : Mem} (h : Made v e m) : 1 ≤ (runsOf m).length := by
  obtain ⟨b, h1, h2, h3⟩ := start_of m e.toNat (by have := h.e1; have := h.e0; omega) h.ce
  have hmem : runOf m b ∈ runsOf m := by
    unfold runsOf runsTo
    exact List.mem_map.2 ⟨b, List.mem_filter.2 ⟨by simp; have := h.e1; have := h.e0; omega, h2⟩, rfl⟩
  exact List.length_pos_of_mem hmem
theorem Made.unpack {v e : Int} {m : Mem} (h : Made v e m) : unpackM (textOf v e (runsOf m)) = some (v, e, runsOf m) := by
  unfold unpackM
  rw [h.dec]
  dsimp only
  rw [if_pos (pack_lays h (runs_fit h.wf) h.ne h.few (lay_runs h.wf h.clean))]
theorem made_of {P : List Seg} {m : Mem} {v e : Int} (hf : ∀ s ∈ P, s.fits = true) (hm : layAll P = some m) (hs : sizes P ≤ 72) (hl : P.length ≤ 6) (hv0 : 0 ≤ v) (hv1 : v ≤ 65535) {s : Seg} (hsP : s ∈ P) (he : e = s.addr) : Made v e m := by
  have hw := layAll_wf hm
  obtain ⟨f1, f2, f3, f4⟩ := (Seg.fits_iff _).1 (hf s hsP)
  have hc := runs_count hf hm
  refine ⟨hw, layAll_clean hm, hv0, hv1, by omega, by omega, ?_, ?_, by omega⟩
  · have h1 := coverN_lay hm e.toNat
    have h3 : 0 < coverN P (e.toNat : Int) := by
      unfold coverN
      apply List.length_pos_of_mem (a := s)
      rw [List.mem_filter]
      refine ⟨hsP, ?_⟩
      unfold Seg.covers
      simp only [Bool.and_eq_true, decide_eq_true_eq]
      omega
    cases h4 : m.c e.toNat
    · rw [h4, if_neg (by simp)] at h1; omega
    · rfl
  · rw [textOf_length]
    have h1 := flat_length (runsOf m) (runs_fit hw)
    rw [sizes_runs hf hm] at h1
    omega

/-- two pictures, two images -/
theorem text_inj {v v' e e' : Int} {m m' : Mem} (h : Made v e m) (h' : Made v' e' m') (ht : textOf v e (runsOf m) = textOf v' e' (runsOf m')) : v = v' ∧ m = m' := by
  have h1 := h.dec
  rw [ht, h'.dec] at h1
  simp only [Option.some.injEq, Prod.mk.injEq] at h1
  refine ⟨h1.1.symm, ?_⟩
  have h2 := lay_runs h.wf h.clean
  rw [← h1.2.2, lay_runs h'.wf h'.clean] at h2
  exact (Option.some.inj h2).symm

/-! images that begin alike -/
theorem byteOf_inj {a b : Int} (ha : 0 ≤ a) (ha1 : a < 256) (hb : 0 ≤ b) (hb1 : b < 256) (h : byteOf a = byteOf b) : a = b := by
  have h1 := byteOf_toNat a ha ha1
  have h2 := byteOf_toNat b hb hb1
  rw [h] at h1; omega
theorem runs_prefix : ∀ (R R' : List Seg) (t t' : List UInt8), R.length = R'.length → (∀ s ∈ R, s.data.size < 256) → (∀ s ∈ R', s.data.size < 256) → R.flatMap runBytes ++ t = R'.flatMap runBytes ++ t' → t = t' := by
  intro R
  induction R with
  | nil =>
    intro R' t t' hl _ _ h
    cases R' with
    | nil => simpa using h
    | cons => simp at hl
  | cons s r ih =>
    intro R' t t' hl h1 h2 h
    cases R' with
    | nil => simp at hl
    | cons s' r' =>
      have hs := h1 s (by simp)
      have hs' := h2 s' (by simp)
      simp only [List.flatMap_cons, runBytes, List.append_assoc, List.cons_append, List.nil_append, List.cons.injEq] at h
      obtain ⟨_, _, hd, hrest⟩ := h
      have hdd := byteOf_inj (by omega) (by omega) (by omega) (by omega) hd
      have hlen : s.data.data.toList.length = s'.data.data.toList.length := by
        show s.data.size = s'.data.size
        omega
      have := (List.append_inj hrest hlen).2
      exact ih r' t t' (by simpa using hl) (fun x hx => h1 x (by simp [hx])) (fun x hx => h2 x (by simp [hx])) this
theorem made_prefix {v v' e e' : Int} {m m' : Mem} (h : Made v e m) (h' : Made v' e' m') (u : List UInt8) (ht : textOf v e (runsOf m) ++ u = textOf v' e' (runsOf m')) : u = [] := by
  have h8 := h.few
  have h8' := h'.few
  have hs := fun s hs => (runsOf_ok h.wf s hs).2
  have hs' := fun s hs => (runsOf_ok h'.wf s hs).2
  simp only [textOf, bodyOf, List.append_assoc, List.cons_append, List.nil_append, List.cons.injEq] at ht
  obtain ⟨_, _, _, _, _, hc, hr⟩ := ht
  have hcc := byteOf_inj (by omega) (by omega) (by omega) (by omega) hc
  have := runs_prefix _ _ _ _ (by omega) (fun s hx => by have := hs s hx; omega) (fun s hx => by have := hs' s hx; omega) hr
  have h2 := congrArg List.length this
  simp only [List.length_cons, List.length_nil] at h2
  exact List.length_eq_zero_iff.1 (by omega)
/-- what an image that is taken is made of -/
theorem taken_made {l : List UInt8} {q : Int × Int × List Seg} (h : unpackM l = some q) : ∃ v e m, Made v e m ∧ l = textOf v e (runsOf m) := by
  obtain ⟨v, e, rs⟩ := q
  obtain ⟨m, h1, h2, h3, h4, h5, h6, h7, h8, h9⟩ := unpack_runs h
  obtain ⟨_, hl8⟩ := unpack_ne h
  obtain ⟨m', g1, g2, _, g3, g4, g5, g6, g7, g8⟩ := pack_ok h6
  rw [h1] at g3
  cases g3
  exact ⟨v, e, m, ⟨h2, layAll_clean h1, g1, g2, g4, g5, g6, by rw [← g7]; exact g8, by rw [← h3]; exact hl8⟩, g7⟩
theorem longer_none {v e : Int} {m : Mem} (h : Made v e m) (u : List UInt8) (hu : u ≠ []) : unpackM (textOf v e (runsOf m) ++ u) = none := by
  cases hx : unpackM (textOf v e (runsOf m) ++ u) with
  | none => rfl
  | some q =>
    obtain ⟨v', e', m', h', ht⟩ := taken_made hx
    exact absurd (made_prefix h h' u ht) hu
theorem shorter_none {v e : Int} {m : Mem} (h : Made v e m) (k : Nat) (hk : k < (textOf v e (runsOf m)).length) : unpackM ((textOf v e (runsOf m)).take k) = none := by
  cases hx : unpackM ((textOf v e (runsOf m)).take k) with
  | none => rfl
  | some q =>
    obtain ⟨v', e', m', h', ht⟩ := taken_made hx
    have := made_prefix h' h ((textOf v e (runsOf m)).drop k) (by rw [← ht, List.take_append_drop])
    have h2 := congrArg List.length this
    simp at h2
    omega

/-! one byte turned -/
def chk (h : Nat) (l : List UInt8) : Nat := l.foldl (fun h b => (31 * h + b.toNat) % 65521) h
theorem chk_lt (l : List UInt8) : ∀ h, h < 65521 → chk h l < 65521 := by
  induction l with
  | nil => intro h hh; exact hh
  | cons b r ih => intro h _; exact ih _ (Nat.mod_lt _ (by decide))
theorem chk_ne (l : List UInt8) : ∀ h h', h < 65521 → h' < 65521 → h ≠ h' → chk h l ≠ chk h' l := by
  induction l with
  | nil => intro h h' _ _ hne; exact hne
  | cons b r ih =>
    intro h h' h1 h2 hne
    show chk ((31 * h + b.toNat) % 65521) r ≠ chk ((31 * h' + b.toNat) % 65521) r
    exact ih _ _ (Nat.mod_lt _ (by decide)) (Nat.mod_lt _ (by decide)) (by omega)
theorem chk_set (l : List UInt8) : ∀ (h k : Nat) (x : UInt8), h < 65521 → (hk : k < l.length) → x ≠ l[k] → chk h (l.set k x) ≠ chk h l := by
  induction l with
  | nil => intro h k x _ hk; simp at hk
  | cons b r ih =>
    intro h k x hh hk hne
    cases k with
    | zero =>
      show chk ((31 * h + x.toNat) % 65521) r ≠ chk ((31 * h + b.toNat) % 65521) r
      apply chk_ne _ _ _ (Nat.mod_lt _ (by decide)) (Nat.mod_lt _ (by decide))
      have h1 := x.toNat_lt
      have h2 := b.toNat_lt
      have h3 : x.toNat ≠ b.toNat := fun e => hne (UInt8.toNat_inj.1 e)
      omega
    | succ k =>
      show chk ((31 * h + b.toNat) % 65521) (r.set k x) ≠ chk ((31 * h + b.toNat) % 65521) r
      exact ih _ _ _ (Nat.mod_lt _ (by decide)) (by simpa using hk) (by simpa using hne)
theorem turned_none {v e : Int} {m : Mem} (_h : Made v e m) (k : Nat) (hk : k < (textOf v e (runsOf m)).length) (x : UInt8) (hx : x ≠ (textOf v e (runsOf m))[k]) : unpackM ((textOf v e (runsOf m)).set k x) = none := by
  cases hq : unpackM ((textOf v e (runsOf m)).set k x) with
  | none => rfl
  | some q =>
    exfalso
    obtain ⟨v', e', m', h', ht⟩ := taken_made hq
    have e1 : textOf v e (runsOf m) = bodyOf v e (runsOf m) ++ [byteOf (checkOf (bodyOf v e (runsOf m)) / 256 : Nat), byteOf (checkOf (bodyOf v e (runsOf m)) % 256 : Nat)] := rfl
    have e2 : textOf v' e' (runsOf m') = bodyOf v' e' (runsOf m') ++ [byteOf (checkOf (bodyOf v' e' (runsOf m')) / 256 : Nat), byteOf (checkOf (bodyOf v' e' (runsOf m')) % 256 : Nat)] := rfl
    have hl1 : (textOf v e (runsOf m)).length = (textOf v' e' (runsOf m')).length := by rw [← ht, List.length_set]
    generalize textOf v e (runsOf m) = T at *
    generalize textOf v' e' (runsOf m') = T' at *
    generalize bodyOf v e (runsOf m) = B at *
    generalize bodyOf v' e' (runsOf m') = B' at *
    subst e1
    subst e2
    have hl2 : B.length = B'.length := by simpa using hl1
    have hb1 := checkOf_lt B
    have hb2 := checkOf_lt B'
    rcases Nat.lt_or_ge k B.length with hkb | hkb
    · rw [List.set_append_left _ _ hkb] at ht
      obtain ⟨t1, t2⟩ := List.append_inj ht (by simpa using hl2)
      have hne := chk_set B 1 k x (by decide) hkb (by rwa [List.getElem_append_left hkb] at hx)
      have t3 : checkOf B ≠ checkOf B' := by rw [← t1]; exact fun e => hne e.symm
      simp only [List.cons.injEq, and_true] at t2
      have q1 := byteOf_inj (by omega) (by omega) (by omega) (by omega) t2.1
      have q2 := byteOf_inj (by omega) (by omega) (by omega) (by omega) t2.2
      omega
    · rw [List.set_append_right _ _ hkb] at ht
      obtain ⟨t1, t2⟩ := List.append_inj ht hl2
      subst t1
      have hk2 : k - B.length < [byteOf (checkOf B / 256 : Nat), byteOf (checkOf B % 256 : Nat)].length := by simp at hk ⊢; omega
      rw [List.getElem_append_right hkb] at hx
      generalize [byteOf (checkOf B / 256 : Nat), byteOf (checkOf B % 256 : Nat)] = z at *
      apply hx
      have := congrArg (fun l => l[k - B.length]?) t2
      simp only [List.getElem?_set_self hk2, List.getElem?_eq_getElem hk2, Option.some.injEq] at this
      exact this
end Go.Proofs.Ytcokahccbjdeaaa
