import Derived.Test.YtcokahccbjdeaaaRefB
import Derived.Deep.RegionHeld3
namespace Go.Proofs.Ytcokahccbjdeaaa
open Go.RowKit

theorem conv_oneI (w : World) (n : Int) :
    (convert 49 9 (.slice (some ⟨w.heap.size, 0, none⟩) 1 1)).run Try.prog (w.alloc (.cells #[.int .u8 (n % 256)] 5)) = .ok (.string (mk [byteOf n])) (w.alloc (.cells #[.int .u8 (n % 256)] 5)) :=
  conv_cells _ _ 1 _ [byteOf n] _ (heap_alloc_new w _) (by rw [byteOf_val]; rfl)

set_option maxRecDepth 100000 in
theorem one_any (w : World) (n : Int) : Calls Try.prog 49 #[.int .i64 n] w fun e w' => e = .returned (.string (mk [byteOf n])) ∧ w' = w.alloc (.cells #[.int .u8 (n % 256)] 5) := by
  have hcv := conv_oneI w n
  generalize mk [byteOf n] = r at *
  go_enter Try.func49, Try.ntmps49
  go_wp2
  go_ret
  exact ⟨rfl, rfl⟩
theorem one_bel (w : World) (n : Int) : Calls Try.prog 49 #[.int .i64 n] w fun e w' => e = .returned (.string (mk [byteOf n])) ∧ Below w.heap.size w w' := by
  refine (one_any w n).mono ?_
  rintro e w' ⟨rfl, rfl⟩
  exact ⟨rfl, (Below.refl _ _).alloc (Nat.le_refl _) _⟩

set_option maxRecDepth 100000 in
theorem two_any (w : World) (n : Int) (h0 : 0 ≤ n) (h1 : n < 9223372036854775808) : Calls Try.prog 48 #[.int .i64 n] w fun e w' => e = .returned (.string (mk [byteOf (n / 256), byteOf (n % 256)])) ∧ Below w.heap.size w w' := by
  have H1 := fun w => one_bel w (n / 256)
  have H2 := fun w => one_bel w (n % 256)
  have HA : Hid (mk [byteOf (n / 256)] ++ mk [byteOf (n % 256)] = mk [byteOf (n / 256), byteOf (n % 256)]) := by unfold Hid; rw [mk_append]; rfl
  obtain ⟨r1, hr1⟩ : ∃ r, r = mk [byteOf (n / 256)] := ⟨_, rfl⟩
  obtain ⟨r2, hr2⟩ : ∃ r, r = mk [byteOf (n % 256)] := ⟨_, rfl⟩
  have z1 : r1.size = 1 := by rw [hr1, mk_size]; rfl
  have z2 : r2.size = 1 := by rw [hr2, mk_size]; rfl
  rw [← hr1] at H1 HA
  rw [← hr2] at H2 HA
  clear hr1 hr2
  go_enter Try.func48, Try.ntmps48
  go_wp2_with (first
    | (go_at_call 49; refine (H1 _).mono ?_; rintro e w2 ⟨rfl, hb2⟩; clear H1)
    | (go_at_call 49; refine (H2 _).mono ?_; rintro e w3 ⟨rfl, hb3⟩))
  go_ret
  exact ⟨ret_str HA.out, hb2.trans (hb3.mono hb2.size)⟩
end Go.Proofs.Ytcokahccbjdeaaa
