import Derived.Test.YtjondekhjalheaaImgC
namespace Go.Proofs.Ytjondekhjalheaa
open Go.RowKit

theorem conv_mem (w : World) (b : Nat) (m : Mem) (h : MemAt w b m) (a n cap : Nat) (hn : a + n ≤ 128) :
    (convert 49 9 (.slice (some ⟨b, 128 + a, none⟩) n cap)).run Try.prog w = .ok (.string ⟨((m.byt.drop a).take n).toArray⟩) w := by
  have hbl := h.wf.2
  have hl : ((m.byt.drop a).take n).length = n := by simp; omega
  have := run_convert_bytes_back (P := Try.prog) w 49 9 5 ⟨b, 128 + a, none⟩ cap ((m.byt.drop a).take n) Try.underlying49 Try.underlying5 Try.underlying9 (by
    intro j hj
    have ha : (⟨b, 128 + a, none⟩ : Addr).add j = ⟨b, 128 + (a + j), none⟩ := by simp [Addr.add, Nat.add_assoc]
    rw [ha, h.byt (a + j) (by omega), Mem.b, getD_get _ _ (by omega)]
    simp)
  rw [hl] at this
  exact this

theorem covers_yes (w : World) (b : Nat) (m : Mem) (a : Nat) (h : MemAt w b m) (ha : a < 128) (hc : m.c a = true) :
    Calls Try.prog 58 #[.pointer (some ⟨b, 0, none⟩), .int .i64 a] w fun e w' => e = .returned (.bool true) ∧ w' = w := by
  refine (covers_any w b m a h).mono ?_
  rintro e w' ⟨rfl, rfl⟩
  refine ⟨?_, rfl⟩
  rw [decide_eq_true (by omega), decide_eq_true (by omega)]; simp [hc]

theorem endFrom_go {m : Mem} {e : Nat} (h : e < 128) (hc : m.c e = true) : endFrom m e = endFrom m (e + 1) := by
  rw [endFrom_eq, if_pos ⟨h, hc⟩]
theorem endFrom_stop {m : Mem} {e : Nat} (h : ¬ (e < 128 ∧ m.c e = true)) : endFrom m e = e := by
  rw [endFrom_eq, if_neg h]
theorem dataFrom_go {m : Mem} {e d : Nat} (h : e < 128) (hc : m.c e = true) : dataFrom m e d = dataFrom m (e + 1) (if m.b e = 0 then d else e + 1) := by
  rw [dataFrom_eq, if_pos ⟨h, hc⟩]
theorem dataFrom_stop {m : Mem} {e d : Nat} (h : ¬ (e < 128 ∧ m.c e = true)) : dataFrom m e d = d := by
  rw [dataFrom_eq, if_neg h]

set_option maxRecDepth 100000 in
set_option maxHeartbeats 2000000 in
theorem runAt_any (w : World) (b : Nat) (m : Mem) (a : Nat) (h : MemAt w b m) (ha : a < 128) (hc : m.c a = true) :
    Calls Try.prog 64 #[.pointer (some ⟨b, 0, none⟩), .int .i64 a] w fun e w' => e = .returned (runOf m a).v ∧ Below w.heap.size w w' := by
  have hbl := h.lt
  have ha' : (a : Int) < 128 := by omega
  have hen := endFrom_le m a (by omega)
  have hdb := dataFrom_bd m a a (by omega) (by omega)
  go_enter Try.func64, Try.ntmps64
  go_wp2_with (go_at_call 58; refine (covers_yes _ b m a (h.kept ((Below.refl _ _).alloc (Nat.le_refl _) _)) ha hc).mono ?_; rintro e w2 ⟨rfl, rfl⟩)
  have hm : MemAt (w.alloc (.cells #[.int .i64 0, .int .i64 0, .string ⟨#[]⟩] 43)) b m := h.kept ((Below.refl _ _).alloc (Nat.le_refl _) _)
  go_loop [5, 6] (fun x y => ∃ e de : Nat, e ≤ 128 ∧ x = .int .i64 e ∧ y = .int .i64 de ∧ de ≤ e ∧ a ≤ de ∧ a ≤ e ∧ Hid (endFrom m e = endFrom m a) ∧ Hid (dataFrom m e de = dataFrom m a a)) (fun x _ => 128 - (intOf x).toNat)
  case atStart => exact ⟨a, a, by omega, rfl, rfl, by omega, by omega, by omega, rfl, rfl⟩
  case round =>
    obtain ⟨e, de, he, rfl, rfl, h1, h2, h3, h4, h5⟩ := hrel
    by_cases hlt : e < 128
    · have c1 := hm.cov e hlt
      have c2 := hm.byt e hlt
      have hlt' : (e : Int) < 128 := by omega
      cases hce : m.c e
      · rw [hce] at c1
        have E1 : Hid (endFrom m a = e) := by unfold Hid; rw [← h4.out, endFrom_stop (by simp [hce])]
        have E2 : Hid (dataFrom m a a = de) := by unfold Hid; rw [← h5.out, dataFrom_stop (by simp [hce])]
        have hcv := conv_mem _ b m hm a (de - a) (128 - a) (by omega)
        have h2' : (a : Int) ≤ de := by omega
        have h6 : (de : Int) ≤ 128 := by omega
        have h7 : ¬ (128 : Nat) = a := by omega
        clear hen hdb
        go_wp2
        refine bodyPost_ret (v := (runOf m a).v) (by simp [results, Try.results64, go_sem, runOf, Seg.v, E1.out, E2.out]) rfl ⟨rfl, ?_⟩
        exact (Below.refl _ _).alloc (Nat.le_refl _) _
      · rw [hce] at c1
        have E1 : Hid (endFrom m (e + 1) = endFrom m a) := by unfold Hid; rw [← h4.out, endFrom_go hlt hce]
        cases hbe : (m.b e == 0)
        · have E2 : Hid (dataFrom m (e + 1) (e + 1) = dataFrom m a a) := by
            unfold Hid; rw [← h5.out, dataFrom_go hlt hce, if_neg (by simpa using hbe)]
          have hne : ¬ ((m.b e).toNat : Int) = 0 := by
            intro hz
            have : (m.b e).toNat = 0 := by omega
            have : m.b e = 0 := UInt8.toNat_inj.1 this
            simp [this] at hbe
          clear hbe
          go_wp2
          go_round
          case rel => exact ⟨e + 1, e + 1, by omega, by go_num, by go_num, by omega, by omega, by omega, E1, E2⟩
          case measure => simp [intOf]; omega
        · have hbz : m.b e = 0 := by simpa using hbe
          have E2 : Hid (dataFrom m (e + 1) de = dataFrom m a a) := by
            unfold Hid; rw [← h5.out, dataFrom_go hlt hce, if_pos hbz]
          rw [hbz] at c2
          have c2' : (w.alloc (.cells #[.int .i64 0, .int .i64 0, .string ⟨#[]⟩] 43)).cell? ⟨b, 128 + e, none⟩ = some (.int .u8 0) := c2
          clear hbe hbz c2
          go_wp2
          go_round
          case rel => exact ⟨e + 1, de, by omega, by go_num, rfl, by omega, by omega, by omega, E1, E2⟩
          case measure => simp [intOf]; omega
    · have he' : e = 128 := by omega
      subst he'
      have E1 : Hid (endFrom m a = 128) := by unfold Hid; rw [← h4.out, endFrom_stop (by simp)]
      have E2 : Hid (dataFrom m a a = de) := by unfold Hid; rw [← h5.out, dataFrom_stop (by simp)]
      have hcv := conv_mem _ b m hm a (de - a) (128 - a) (by omega)
      have h2' : (a : Int) ≤ de := by omega
      have h6 : (de : Int) ≤ 128 := by omega
      have h7 : ¬ (128 : Nat) = a := by omega
      clear hen hdb
      go_wp2
      refine bodyPost_ret (v := (runOf m a).v) (by simp [results, Try.results64, go_sem, runOf, Seg.v, E1.out, E2.out]) rfl ⟨rfl, ?_⟩
      exact (Below.refl _ _).alloc (Nat.le_refl _) _
end Go.Proofs.Ytjondekhjalheaa
