import Derived.Test.YtjondekhjalheaaRefA
namespace Go.Proofs.Ytjondekhjalheaa
open Go.RowKit

theorem endFrom_cov (m : Mem) (a j : Nat) (h1 : a ≤ j) (h2 : j < endFrom m a) : m.c j = true := by
  refine up_ind (p := fun a => a ≤ j → j < endFrom m a → m.c j = true) (fun a ih h1 h2 => ?_) a h1 h2
  by_cases h : a < 128 ∧ m.c a = true
  · rw [endFrom_go h.1 h.2] at h2
    by_cases e : a = j
    · subst e; exact h.2
    · exact ih h.1 (by omega) h2
  · rw [endFrom_stop h] at h2; omega
theorem endFrom_end (m : Mem) (a : Nat) : ¬ (endFrom m a < 128 ∧ m.c (endFrom m a) = true) := by
  refine up_ind (p := fun a => ¬ (endFrom m a < 128 ∧ m.c (endFrom m a) = true)) (fun a ih => ?_) a
  show ¬ (endFrom m a < 128 ∧ m.c (endFrom m a) = true)
  by_cases h : a < 128 ∧ m.c a = true
  · rw [endFrom_go h.1 h.2]; exact ih h.1
  · rw [endFrom_stop h]; exact h
theorem runsTo_stretch (m : Mem) (a n : Nat) (h : ∀ j, a < j → j < a + 1 + n → m.c (j - 1) = true) : runsTo m (a + 1 + n) = runsTo m (a + 1) := by
  induction n with
  | zero => rfl
  | succ n ih =>
    rw [show a + 1 + (n + 1) = (a + 1 + n) + 1 by omega, runsTo_succ, ih (fun j h1 h2 => h j h1 (by omega)), if_neg, List.append_nil]
    have hc := h (a + 1 + n) (by omega) (by omega)
    simp only [isStart, hc, Bool.and_true]
    rw [decide_eq_true (by omega)]; simp
theorem runsTo_run (m : Mem) (a : Nat) (h : isStart m a = true) (ha : a < 128) : runsTo m (endFrom m a) = runsTo m a ++ [runOf m a] := by
  have hc : m.c a = true := by simp only [isStart, Bool.and_eq_true] at h; exact h.1
  have h1 := endFrom_ge m (a + 1)
  rw [← endFrom_go ha hc] at h1
  obtain ⟨n, hn⟩ : ∃ n, endFrom m a = a + 1 + n := ⟨endFrom m a - (a + 1), by omega⟩
  rw [hn, runsTo_stretch m a n, runsTo_succ, if_pos h]
  intro j hj1 hj2
  exact endFrom_cov m a (j - 1) (by omega) (by omega)

theorem conv_one (w : World) (x : UInt8) :
    (convert 49 9 (.slice (some ⟨w.heap.size, 0, none⟩) 1 1)).run Try.prog (w.alloc (.cells #[.int .u8 (x.toNat : Int)] 5)) = .ok (.string (mk [x])) (w.alloc (.cells #[.int .u8 (x.toNat : Int)] 5)) :=
  conv_cells _ _ 1 _ [x] _ (heap_alloc_new w _) rfl

theorem take_one (l : List UInt8) (a n : Nat) (h : a + n < l.length) : (l.drop a).take (n + 1) = (l.drop a).take n ++ [l.getD (a + n) 0] := by
  rw [List.take_succ_eq_append_getElem (by simp; omega), getD_get l (a + n) h]; simp

theorem cells_new1 (w : World) (cs : Array Value) (t : TypeId) (news : List Value) (h : cs.toList = news) :
    ∀ (j : Nat) (u : Value), news[j]? = some u → (w.alloc (.cells cs t)).cell? (Addr.add ⟨w.heap.size, 0, none⟩ j) = some u := by
  intro j u hj
  have ha : (⟨w.heap.size, 0, none⟩ : Addr).add j = ⟨w.heap.size, j, none⟩ := by cases j <;> simp [Addr.add]
  rw [ha, cell_of_heap (heap_alloc_new w (.cells cs t)), ← hj, ← h, Array.getElem?_toList]

set_option maxRecDepth 100000 in
set_option maxHeartbeats 8000000 in
theorem refRuns_any (w : World) (m : Mem) (hw : m.wf) :
    Calls Try.prog 47 #[.agg (memV m)] w fun e w' => ∃ v, e = .returned v ∧ w'.ownsRow (w.heap.size + 1) 43 3 v (runsOf m).length (segCells (runsOf m)) ∧ Below w.heap.size w w' := by
  obtain ⟨i0, hi, hz0, hz1, hz2⟩ := info_parts Try.info43
  have hP0 : PicAt (w.alloc (.cells (memV m) 63)) w.heap.size m := ⟨heap_alloc_new _ _, hw⟩
  generalize memV m = cells at *
  go_enter Try.func47, Try.ntmps47
  go_wp2
  have hW0 : Below w.heap.size w (w.alloc (.cells cells 63)) := (Below.refl _ _).alloc (Nat.le_refl _) _
  have hW1 : w.heap.size < (w.alloc (.cells cells 63)).heap.size := by simp
  generalize w.alloc (.cells cells 63) = w0 at *
  go_loopw [3, 4, 5, 6, 7, 8] (fun v i _ _ _ _ wr => ∃ k : Nat, k ≤ 128 ∧ i = .int .i64 k ∧ wr.ownsRow (w.heap.size + 1) 43 3 v (runsTo m k).length (segCells (runsTo m k)) ∧ Hid (k < 128 → m.c k = true → isStart m k = true) ∧ Below (w.heap.size + 1) w0 wr) (fun _ i _ _ _ _ _ => 128 - (intOf i).toNat)
  case atStart => exact ⟨0, by omega, rfl, World.ownsRow_nil _ _ _ _, fun _ hc => by simp [isStart, hc], Below.refl _ _⟩
  case round =>
    obtain ⟨k, hk, rfl, hown, hJ, hbel⟩ := hrel
    obtain ⟨wo, rfl⟩ : ∃ wo : World, wo = wr := ⟨_, rfl⟩
    have hm : PicAt wo w.heap.size m := ⟨by rw [hbel.block _ (by omega)]; exact hP0.hb, hw⟩
    by_cases hlt : k < 128
    · have c1 := hm.cov k hlt
      have hlt' : (k : Int) < 128 := by omega
      cases hck : m.c k
      · rw [hck] at c1
        have hno : Hid (runsTo m (k + 1) = runsTo m k) := by unfold Hid; rw [runsTo_succ, if_neg (by simp [isStart, hck]), List.append_nil]
        have hJ1 : Hid (k + 1 < 128 → m.c (k + 1) = true → isStart m (k + 1) = true) := fun _ hc => by simp [isStart, hc, hck]
        clear hJ
        go_wp2
        go_roundw
        case rel => exact ⟨k + 1, by omega, by go_num, by rw [hno.out]; exact hown, hJ1, hbel⟩
        case measure => simp [intOf]; omega
      · rw [hck] at c1
        have hst := hJ.out hlt hck
        have hyes : Hid (runsTo m (endFrom m k) = runsTo m k ++ [runOf m k]) := runsTo_run m k hst hlt
        have hJ1 : Hid (endFrom m k < 128 → m.c (endFrom m k) = true → isStart m (endFrom m k) = true) := fun h1 h2 => absurd ⟨h1, h2⟩ (endFrom_end m k)
        have hge := endFrom_ge m (k + 1)
        rw [← endFrom_go hlt hck] at hge
        have hen := endFrom_le m k (by omega)
        have hdb := dataFrom_bd m k k (by omega) (by omega)
        clear hst hJ
        go_wp2
        have hloop1 := hm
        go_loop [4, 6] (fun x y => ∃ e de : Nat, e ≤ 128 ∧ x = .int .i64 e ∧ y = .int .i64 de ∧ de ≤ e ∧ k ≤ de ∧ k ≤ e ∧ Hid (endFrom m e = endFrom m k) ∧ Hid (dataFrom m e de = dataFrom m k k)) (fun x _ => 128 - (intOf x).toNat)
        case atStart => exact ⟨k, k, by omega, rfl, rfl, by omega, by omega, by omega, rfl, rfl⟩
        case round =>
          obtain ⟨e, de, he, rfl, rfl, h1, h2, h3, h4, h5⟩ := hrel
          by_cases hgo : e < 128 ∧ m.c e = true
          · obtain ⟨hlt2, hce⟩ := hgo
            have c3 := hm.cov e hlt2
            have c2 := hm.byt e hlt2
            rw [hce] at c3
            have hlt2' : (e : Int) < 128 := by omega
            have E1 : Hid (endFrom m (e + 1) = endFrom m k) := by unfold Hid; rw [← h4.out, endFrom_go hlt2 hce]
            clear hyes hown
            cases hbe : (m.b e == 0)
            · have E2 : Hid (dataFrom m (e + 1) (e + 1) = dataFrom m k k) := by
                unfold Hid; rw [← h5.out, dataFrom_go hlt2 hce, if_neg (by simpa using hbe)]
              have hne : ¬ ((m.b e).toNat : Int) = 0 := by
                intro hz
                have : (m.b e).toNat = 0 := by omega
                have : m.b e = 0 := UInt8.toNat_inj.1 this
                simp [this] at hbe
              clear hbe
              go_wp2
              go_round
              case rel => exact ⟨e + 1, e + 1, by omega, by go_num, by go_num, by omega, by omega, by omega, E1, E2⟩
              case measure => simp [intOf]; omega
            · have hbz : m.b e = 0 := by simpa using hbe
              have E2 : Hid (dataFrom m (e + 1) de = dataFrom m k k) := by
                unfold Hid; rw [← h5.out, dataFrom_go hlt2 hce, if_pos hbz]
              rw [hbz] at c2
              have c2' : wo.cell? ⟨w.heap.size, 128 + e, none⟩ = some (.int .u8 0) := c2
              clear hbe hbz c2
              go_wp2
              go_round
              case rel => exact ⟨e + 1, de, by omega, by go_num, rfl, by omega, by omega, by omega, E1, E2⟩
              case measure => simp [intOf]; omega
          · have E1 : Hid (endFrom m k = e) := by unfold Hid; rw [← h4.out, endFrom_stop hgo]
            have E2 : Hid (dataFrom m k k = de) := by unfold Hid; rw [← h5.out, dataFrom_stop hgo]
            have hyes2 : Hid (runsTo m e = runsTo m k ++ [⟨k, (e : Int) - k, ⟨((m.byt.drop k).take (de - k)).toArray⟩⟩]) := by
              unfold Hid
              have := hyes.out
              rw [E1.out] at this
              rw [this, runOf, E1.out, E2.out]
            have hJ2 : Hid (e < 128 → m.c e = true → isStart m e = true) := by
              have := hJ1.out
              rw [E1.out] at this
              exact this
            have hke : k < e := by have := hge; rw [E1.out] at this; omega
            clear hyes hJ1 hen hdb hge h4 h5 E1 E2
            have hec : Hid (e < 128 → m.c e = false) := by
              intro hx
              cases hy : m.c e
              · rfl
              · exact absurd ⟨hx, hy⟩ hgo
            have c3 : Hid (e < 128 → wo.cell? ⟨w.heap.size, e, none⟩ = some (.bool false)) := by
              intro hx
              have := hm.cov e hx
              rwa [hec.out hx] at this
            have hde128 : de ≤ 128 := by omega
            by_cases he128 : e < 128
            all_goals
              first
                | (have c4 := c3.out he128; have he128' : (e : Int) < 128 := by omega)
                | (have he128' : ¬ (e : Int) < 128 := by omega)
              go_wp2
              go_loopw [7, 8] (fun t j wr => ∃ n : Nat, k ≤ n ∧ n ≤ de ∧ j = .int .i64 n ∧ (∃ q : ByteArray, t = .string q ∧ q.size ≤ 128 ∧ Hid (q = mk ((m.byt.drop k).take (n - k)))) ∧ Below wo.heap.size wo wr) (fun _ j _ => de - (intOf j).toNat)
              case atStart => exact ⟨k, by omega, by omega, rfl, ⟨_, rfl, Nat.zero_le 128, by unfold Hid; rw [Nat.sub_self]; rfl⟩, Below.refl _ _⟩
              case round =>
                obtain ⟨n, hn1, hn2, rfl, ⟨q, rfl, hq, hqe⟩, hb2⟩ := hrel
                have hm2 : PicAt wr w.heap.size m := hm.kept hb2
                by_cases hnlt : n < de
                · have hby := hm2.byt n (by omega)
                  have hcv := conv_one wr (m.b n)
                  have hq2 : Hid (q ++ mk [m.b n] = mk ((m.byt.drop k).take (n + 1 - k))) := by
                    unfold Hid
                    rw [hqe.out, mk_append, show n + 1 - k = (n - k) + 1 by omega, take_one _ _ _ (by rw [hw.2]; omega), show k + (n - k) = n by omega]; rfl
                  have hq3 : Hid ((mk ((m.byt.drop k).take (n + 1 - k))).size ≤ 128) := by
                    unfold Hid; rw [mk_size, List.length_take, List.length_drop, hw.2]; omega
                  obtain ⟨x1, hx1⟩ : ∃ x1, x1 = mk [m.b n] := ⟨_, rfl⟩
                  have hx2 : x1.size = 1 := by rw [hx1, mk_size]; rfl
                  rw [← hx1] at hcv hq2
                  clear hx1 hown hyes2
                  have hnlt' : (n : Int) < 128 := by omega
                  go_wp2
                  go_roundw
                  case rel => exact ⟨n + 1, by omega, by omega, by go_num, ⟨_, rfl, by rw [hq2.out]; exact hq3.out, hq2⟩, hb2.alloc (Nat.le_trans (Nat.le_refl _) hb2.size) _⟩
                  case measure => simp [intOf]; omega
                · have hnd : n = de := by omega
                  subst hnd
                  have hsg : Hid (segCells (runsTo m e) = segCells (runsTo m k) ++ [.int .i64 k, .int .i64 ((e : Int) - k), .string q]) := by
                    unfold Hid; rw [hyes2.out, segCells_append, hqe.out]; rfl
                  have hln : Hid ((runsTo m e).length = (runsTo m k).length + 1) := by unfold Hid; rw [hyes2.out]; simp
                  have hrl := runsTo_length m k
                  clear hyes2
                  go_wp2_with (at_builtin; refine wpList_append_own _ rfl _ _ 23 rfl (w.heap.size + 1) 43 i0 _ 3 32 Try.underlying23 hi hz0 hz1 hz2 rfl (by decide) _ _ _ rfl ((ownsRow_below hown hb2).alloc _) ⟨wr.heap.size, 0, none⟩ 1 1 [.int .i64 k, .int .i64 ((e : Int) - k), .string q] rfl rfl ?c1 ?c2 ?c3 ?c4 ?c5 ?_)
                  case c1 => exact cells_new1 wr _ _ _ rfl
                  case c2 => intro u hu; simp at hu; rcases hu with rfl | rfl | rfl <;> rfl
                  case c3 => unfold maxLen; omega
                  case c4 => omega
                  case c5 => have := hbel.size; have := hb2.size; simp; omega
                  intro v' w4 hown4 hgr4 _
                  have hbl4 : Below (w.heap.size + 1) w0 w4 := by
                    refine ((hbel.trans (hb2.mono ?_)).alloc ?_ _).grown hgr4 ?_ ?_
                    · have := hbel.size; omega
                    · have := hbel.size; have := hb2.size; omega
                    · have := hbel.size; have := hb2.size; simp; omega
                    · exact own_lt hown
                  rw [← hsg.out, ← hln.out] at hown4
                  clear hgr4 hown hbel hb2 hm hm2 c1
                  go_wp2
                  go_roundw
                  case rel => exact ⟨e, by omega, rfl, hown4, hJ2, hbl4⟩
                  case measure => simp [intOf]; omega
    · have hk2 : k = 128 := by omega
      subst hk2
      go_wp2
      go_ret
      exact ⟨_, rfl, hown, hW0.trans (hbel.mono (by omega))⟩
end Go.Proofs.Ytjondekhjalheaa
