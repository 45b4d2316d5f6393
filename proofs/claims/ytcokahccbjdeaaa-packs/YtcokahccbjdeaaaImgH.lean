import Derived.Test.YtcokahccbjdeaaaImgG
namespace Go.Proofs.Ytcokahccbjdeaaa
open Go.RowKit

theorem runsOf_ok {m : Mem} (h : m.wf) : ∀ s ∈ runsOf m, s.ok ∧ s.data.size ≤ 128 := by
  intro s hs
  unfold runsOf runsTo at hs
  obtain ⟨a, ha, rfl⟩ := List.mem_map.1 hs
  have ha' : a < 128 := by have := (List.mem_filter.1 ha).1; simpa using this
  have h1 := endFrom_le m a (by omega)
  have h2 := endFrom_ge m a
  have h3 : (runOf m a).data.size ≤ 128 := by
    show ((m.byt.drop a).take (dataFrom m a a - a)).toArray.size ≤ 128
    rw [List.size_toArray, List.length_take, List.length_drop, h.2]; omega
  refine ⟨⟨?_, ?_, ?_, ?_, by omega⟩, h3⟩ <;> simp only [runOf] <;> omega

theorem Mem.step_wf {m m' : Mem} {s : Seg} (h : m.wf) (hs : m.step s = some m') : m'.wf := by
  unfold Mem.step at hs
  split at hs
  · cases hs; exact Mem.putN_wf h _ _ _
  · cases hs
theorem foldlM_wf (l : List Seg) : ∀ {m m' : Mem}, m.wf → l.foldlM Mem.step m = some m' → m'.wf := by
  induction l with
  | nil => intro m m' h hs; cases hs; exact h
  | cons s r ih =>
    intro m m' h hs
    rw [List.foldlM_cons] at hs
    cases hst : m.step s with
    | none => rw [hst] at hs; cases hs
    | some m1 => rw [hst] at hs; exact ih (Mem.step_wf h hst) hs
theorem layAll_wf {l : List Seg} {m : Mem} (h : layAll l = some m) : m.wf := foldlM_wf l mem0_wf h

set_option maxRecDepth 100000 in
set_option maxHeartbeats 4000000 in
theorem pack_any (w : World) (v e : Int) (a : Option Addr) (b o cap : Nat) (l : List Seg) (ha : l ≠ [] → a = some ⟨b, o, none⟩) (hl : SegsAt w b o l) (hok : ∀ s ∈ l, s.ok) (hb : l ≠ [] → b < w.heap.size) (hlen : l.length < 4611686018427387904) :
    Calls Try.prog 43 #[.int .i64 v, .int .i64 e, .slice a l.length cap] w fun en w' => en = .returned (.tuple #[.string (mk (packM v e l).1), .int .i64 (packM v e l).2]) ∧ Below w.heap.size w w' := by
  by_cases hv0 : v < 0
  · have hp : packM v e l = ([], 1) := by unfold packM; rw [if_pos (Or.inl hv0)]
    rw [hp]; clear hp
    go_enter Try.func43, Try.ntmps43
    go_wp2
    go_ret2
    exact ⟨rfl, Below.refl _ _⟩
  by_cases hv1 : 65535 < v
  · have hp : packM v e l = ([], 1) := by unfold packM; rw [if_pos (Or.inr hv1)]
    rw [hp]; clear hp
    go_enter Try.func43, Try.ntmps43
    go_wp2
    go_ret2
    exact ⟨rfl, Below.refl _ _⟩
  have hvv : ¬ (v < 0 ∨ 65535 < v) := by omega
  have hAF := allFit_any w a b o cap l ha hl hok hb hlen
  cases haf : allFit l
  · have hp : packM v e l = ([], 2) := by unfold packM; rw [if_neg hvv, if_pos haf]
    rw [hp]; clear hp
    rw [haf] at hAF
    go_enter Try.func43, Try.ntmps43
    go_wp2_with (go_at_call 56; refine hAF.mono ?_; rintro en w2 ⟨rfl, hb2⟩)
    go_ret2
    exact ⟨rfl, hb2⟩
  rw [haf] at hAF
  have HL : ∀ w2, Below w.heap.size w w2 → SegsAt w2 b o l := by
    intro w2 hb2 i hi
    have hne : l ≠ [] := by intro e; simp [e] at hi
    obtain ⟨c1, c2, c3⟩ := hl i hi
    exact ⟨(hb2.cell (p := ⟨b, o + i * 3, none⟩) (hb hne)).trans c1, (hb2.cell (p := ⟨b, o + i * 3 + 1, none⟩) (hb hne)).trans c2, (hb2.cell (p := ⟨b, o + i * 3 + 2, none⟩) (hb hne)).trans c3⟩
  have HLN : layAll l = none → ∀ w2, Below w.heap.size w w2 → Calls Try.prog 57 #[.slice a l.length cap] w2 fun e w' => e = .returned (.tuple #[.pointer none, .bool false]) ∧ Below w2.heap.size w2 w' :=
    fun hn w2 hb2 => (lay_any w2 a b o cap l ha (HL w2 hb2) hok (fun h => Nat.lt_of_lt_of_le (hb h) hb2.size) hlen).mono fun e w' hh => ⟨hh.2.1 hn, hh.2.2⟩
  have HLS : ∀ m, layAll l = some m → ∀ w2, Below w.heap.size w w2 → Calls Try.prog 57 #[.slice a l.length cap] w2 fun e w' => e = .returned (.tuple #[.pointer (some ⟨w2.heap.size, 0, none⟩), .bool true]) ∧ MemAt w' w2.heap.size m ∧ Below w2.heap.size w2 w' :=
    fun m hn w2 hb2 => (lay_any w2 a b o cap l ha (HL w2 hb2) hok (fun h => Nat.lt_of_lt_of_le (hb h) hb2.size) hlen).mono fun e w' hh => ⟨(hh.1 m hn).1, (hh.1 m hn).2, hh.2.2⟩
  cases hly : layAll l with
  | none =>
    have hp : packM v e l = ([], 3) := by unfold packM; rw [if_neg hvv, if_neg (by simp [haf]), hly]
    rw [hp]; clear hp
    have HLY := HLN hly
    clear HLN HLS
    go_enter Try.func43, Try.ntmps43
    go_wp2_with (first
      | (go_at_call 56; refine hAF.mono ?_; rintro en w2 ⟨rfl, hb2⟩)
      | (go_at_call 57; refine (HLY _ hb2).mono ?_; rintro en w3 ⟨rfl, hb3⟩))
    go_ret2
    exact ⟨rfl, hb2.trans (hb3.mono hb2.size)⟩
  | some m =>
    have hp : packM v e l = (if ¬ (0 ≤ e ∧ e < 128 ∧ m.c e.toNat = true) then ([], 4)
      else if 120 < (textOf v e (runsOf m)).length then ([], 5)
      else (textOf v e (runsOf m), 0)) := by unfold packM; rw [if_neg hvv, if_neg (by simp [haf]), hly]
    have HLY := HLS m hly
    clear HLN HLS
    have hmw := layAll_wf hly
    cases hce : (decide (0 ≤ e) && decide (e < 128) && m.c e.toNat)
    · rw [if_pos (by intro hh; rw [decide_eq_true hh.1, decide_eq_true hh.2.1, hh.2.2] at hce; simp at hce)] at hp
      rw [hp]; clear hp
      go_enter Try.func43, Try.ntmps43
      go_wp2_with (first
        | (go_at_call 56; refine hAF.mono ?_; rintro en w2 ⟨rfl, hb2⟩)
        | (go_at_call 57; refine (HLY _ hb2).mono ?_; rintro en w3 ⟨rfl, hm3, hb3⟩)
        | (go_at_call 58; refine (covers_no _ _ m e false hm3 hce).mono ?_; rintro en w4 ⟨rfl, rfl⟩))
      go_ret2
      exact ⟨rfl, hb2.trans (hb3.mono hb2.size)⟩
    · simp only [Bool.and_eq_true, decide_eq_true_eq] at hce
      obtain ⟨⟨he0, he1⟩, hc⟩ := hce
      rw [if_neg (by simp [he0, he1, hc])] at hp
      have hce2 : (decide (0 ≤ e) && decide (e < 128) && m.c e.toNat) = true := by simp [he0, he1, hc]
      have HCE : Hid ((decide (0 ≤ e) && decide (e < 128) && m.c e.toNat) = true) := hce2
      clear hce2
      have hro := runsOf_ok hmw
      have hrl := runsTo_length m 128
      have hrl' : (runsOf m).length ≤ 128 := hrl
      obtain ⟨rs, hrs⟩ : ∃ rs, rs = runsOf m := ⟨_, rfl⟩
      have HR : ∀ w3 g, MemAt w3 g m → Calls Try.prog 59 #[.pointer (some ⟨g, 0, none⟩)] w3 fun e w' => ∃ (a : Option Addr) (b cap : Nat), e = .returned (.slice a rs.length cap) ∧ (rs ≠ [] → a = some ⟨b, 0, none⟩) ∧ SegsAt w' b 0 rs ∧ (rs ≠ [] → b < w'.heap.size) ∧ Below w3.heap.size w3 w' := by
        intro w3 g hm3
        refine (runs_any w3 g m hm3).mono ?_
        rintro en w' ⟨vv, rfl, hown, hb⟩
        rw [← hrs] at hown
        obtain ⟨_, a1, b1, cap1, rfl, h1, h2, h3, _, _⟩ := SegsAt_of_own hown
        exact ⟨a1, b1, cap1, rfl, h1, h2, fun h => (h3 h).1, hb⟩
      rw [← hrs] at hro hrl' hp
      clear hrs hrl
      have HE : ∀ (w4 : World) (a1 : Option Addr) (b1 cap1 : Nat), (rs ≠ [] → a1 = some ⟨b1, 0, none⟩) → SegsAt w4 b1 0 rs → (rs ≠ [] → b1 < w4.heap.size) → Calls Try.prog 60 #[.agg #[.int .i64 v, .int .i64 e, .slice a1 rs.length cap1]] w4 fun en w' => en = .returned (.string (mk (textOf v e rs))) ∧ Below w4.heap.size w4 w' :=
        fun w4 a1 b1 cap1 h1 h2 h3 => encode_any w4 v e a1 b1 0 cap1 rs h1 h2 hro h3 hrl' (by omega) (by omega) he0 he1
      have hts := mk_size (textOf v e rs)
      obtain ⟨t, ht⟩ : ∃ t, t = mk (textOf v e rs) := ⟨_, rfl⟩
      rw [← ht] at HE hts
      have HT : Hid (t = mk (textOf v e rs)) := ht
      by_cases hbig : 120 < (textOf v e rs).length
      · rw [if_pos hbig] at hp
        rw [hp]
        have hbig' : 120 < (t.size : Int) := by omega
        clear hp ht hts hbig hrl' hro
        go_enter Try.func43, Try.ntmps43
        go_wp2_with (first
          | (go_at_call 56; refine hAF.mono ?_; rintro en w2 ⟨rfl, hb2⟩)
          | (go_at_call 57; refine (HLY _ hb2).mono ?_; rintro en w3 ⟨rfl, hm3, hb3⟩)
          | (go_at_call 58; refine (covers_no _ _ m e true hm3 HCE.out).mono ?_; rintro en w4 ⟨rfl, rfl⟩)
          | (go_at_call 59; refine (HR _ _ hm3).mono ?_; rintro en w5 ⟨a1, b1, cap1, rfl, r1, r2, r3, hb5⟩)
          | (go_at_call 60; refine (HE _ a1 b1 cap1 r1 r2 r3).mono ?_; rintro en w6 ⟨rfl, hb6⟩))
        go_ret2
        exact ⟨rfl, ((hb2.trans (hb3.mono hb2.size)).trans (hb5.mono (Nat.le_trans hb2.size hb3.size))).trans (hb6.mono (Nat.le_trans (Nat.le_trans hb2.size hb3.size) hb5.size))⟩
      · rw [if_neg hbig] at hp
        rw [hp]
        have hbig' : (t.size : Int) ≤ 120 := by omega
        clear hp ht hts hbig hrl' hro
        go_enter Try.func43, Try.ntmps43
        go_wp2_with (first
          | (go_at_call 56; refine hAF.mono ?_; rintro en w2 ⟨rfl, hb2⟩)
          | (go_at_call 57; refine (HLY _ hb2).mono ?_; rintro en w3 ⟨rfl, hm3, hb3⟩)
          | (go_at_call 58; refine (covers_no _ _ m e true hm3 HCE.out).mono ?_; rintro en w4 ⟨rfl, rfl⟩)
          | (go_at_call 59; refine (HR _ _ hm3).mono ?_; rintro en w5 ⟨a1, b1, cap1, rfl, r1, r2, r3, hb5⟩)
          | (go_at_call 60; refine (HE _ a1 b1 cap1 r1 r2 r3).mono ?_; rintro en w6 ⟨rfl, hb6⟩))
        go_ret2
        refine ⟨?_, ((hb2.trans (hb3.mono hb2.size)).trans (hb5.mono (Nat.le_trans hb2.size hb3.size))).trans (hb6.mono (Nat.le_trans (Nat.le_trans hb2.size hb3.size) hb5.size))⟩
        rw [← HT.out]; rfl

set_option maxRecDepth 100000 in
theorem twinPack_any (w : World) (v e : Int) (a : Option Addr) (b o cap : Nat) (l : List Seg) (ha : l ≠ [] → a = some ⟨b, o, none⟩) (hl : SegsAt w b o l) (hok : ∀ s ∈ l, s.ok) (hb : l ≠ [] → b < w.heap.size) (hlen : l.length < 4611686018427387904) :
    Calls Try.prog 14 #[.int .i64 v, .int .i64 e, .slice a l.length cap] w fun en w' => en = .returned (.tuple #[.string (mk (packM v e l).1), .int .i64 (packM v e l).2]) ∧ Below w.heap.size w w' := by
  have HP := pack_any w v e a b o cap l ha hl hok hb hlen
  generalize mk (packM v e l).1 = r1 at *
  generalize (packM v e l).2 = r2 at *
  go_enter Try.func14, Try.ntmps14
  go_wp2_with (go_at_call 43; refine HP.mono ?_; rintro en w2 ⟨rfl, hb2⟩)
  go_ret2
  exact ⟨rfl, hb2⟩
end Go.Proofs.Ytcokahccbjdeaaa
