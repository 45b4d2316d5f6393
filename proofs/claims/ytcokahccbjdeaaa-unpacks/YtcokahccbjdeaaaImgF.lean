import Derived.Test.YtcokahccbjdeaaaImgE
namespace Go.Proofs.Ytcokahccbjdeaaa
open Go.RowKit

def mk (l : List UInt8) : ByteArray := ⟨l.toArray⟩
theorem mk_size (l : List UInt8) : (mk l).size = l.length := by simp [mk, ByteArray.size]
theorem mk_append (a b : List UInt8) : mk a ++ mk b = mk (a ++ b) := by
  apply ByteArray.ext; rw [ByteArray.data_append]; simp [mk]
theorem mk_list (d : ByteArray) : mk d.data.toList = d := by apply ByteArray.ext; simp [mk]
theorem mk_data (l : List UInt8) : (mk l).data.toList = l := by simp [mk]
theorem mk_inj {a b : List UInt8} (h : mk a = mk b) : a = b := by
  have := congrArg (fun x => x.data.toList) h
  simpa [mk_data] using this

theorem byteOf_val (n : Int) : Value.int .u8 (n % 256) = Value.int .u8 ((byteOf n).toNat : Int) := by
  congr 1
  unfold byteOf
  rw [UInt8.toNat_ofNat']
  omega

set_option maxRecDepth 100000 in
set_option maxHeartbeats 2000000 in
theorem check_any (w : World) (l : List UInt8) (hl : l.length < 1073741824) :
    Calls Try.prog 66 #[.string (mk l)] w fun e w' => e = .returned (.int .i64 (checkOf l)) ∧ w' = w := by
  have hsz := mk_size l
  obtain ⟨s, hs⟩ : ∃ s, s = mk l := ⟨_, rfl⟩
  rw [← hs] at hsz ⊢
  have hsz' : s.size < 1073741824 := by omega
  have HS : Hid (s.data.toList = l) := by unfold Hid; rw [hs, mk_data]
  have HZ : Hid (s.size = l.length) := hsz
  clear hs hsz
  go_enter Try.func66, Try.ntmps66
  go_wp2
  go_loop [3, 4] (fun h i => ∃ k : Nat, k ≤ s.size ∧ i = .int .i64 k ∧ ∃ x : Nat, x < 65521 ∧ h = .int .i64 x ∧ Hid (x = checkOf (l.take k))) (fun _ i => s.size - (intOf i).toNat)
  case atStart => exact ⟨0, by omega, rfl, 1, by omega, rfl, rfl⟩
  case round =>
    obtain ⟨k, hk, rfl, x, hx, rfl, hc⟩ := hrel
    by_cases hlt : k < s.size
    · have hlt' : (k : Int) < s.size := by omega
      have hb : (s[k].toNat : Int) < 256 := by have := s[k].toNat_lt; omega
      have hlk : k < l.length := by rw [← HZ.out]; exact hlt
      have HN : Hid ((31 * x + s[k].toNat) % 65521 = checkOf (l.take (k + 1))) := by
        unfold Hid
        rw [List.take_succ_eq_append_getElem hlk]
        have e : s[k] = l[k] := by
          have h1 := ba_getD s k hlt
          rw [HS.out, getD_get l k hlk] at h1
          exact h1.symm
        rw [checkOf, List.foldl_append, e]
        have := hc.out
        unfold checkOf at this
        rw [← this]; rfl
      go_wp2
      go_round
      case rel => exact ⟨k + 1, by omega, by go_num, _, Nat.mod_lt _ (by decide), by go_num, HN⟩
      case measure => simp [intOf]; omega
    · have hks : Hid (x = checkOf l) := by
        have := hc.out
        rwa [List.take_of_length_le (by rw [← HZ.out]; omega)] at this
      go_wp2
      go_ret
      exact ⟨by rw [← hks.out]; rfl, rfl⟩

theorem conv_cells (w : World) (g cap : Nat) (cs : Array Value) (l : List UInt8) (fz : Nat × Nat) (hg : w.heap[g]? = some (.cells cs 5 fz)) (hcs : cs = bytesV l) :
    (convert 49 9 (.slice (some ⟨g, 0, none⟩) l.length cap)).run Try.prog w = .ok (.string (mk l)) w := by
  subst hcs
  have := conv_row w g 0 l.length cap l fz hg (by omega)
  rw [List.drop_zero, List.take_of_length_le (Nat.le_refl _)] at this
  exact this
theorem conv_new3 (w : World) (o : Obj) (x y z : Int) :
    (convert 49 9 (.slice (some ⟨w.heap.size + 1, 0, none⟩) 3 3)).run Try.prog ((w.alloc o).alloc (.cells #[.int .u8 (x % 256), .int .u8 (y % 256), .int .u8 (z % 256)] 5)) =
      .ok (.string (mk [byteOf x, byteOf y, byteOf z])) ((w.alloc o).alloc (.cells #[.int .u8 (x % 256), .int .u8 (y % 256), .int .u8 (z % 256)] 5)) :=
  conv_cells _ _ 3 _ [byteOf x, byteOf y, byteOf z] _ (heap_alloc2_new w o _) (by simp [bytesV, byteOf_val])

set_option maxRecDepth 100000 in
set_option maxHeartbeats 2000000 in
theorem encodeRun_any (w : World) (s : Seg) (h : s.ok) (hd : s.data.size ≤ 1073741824) :
    Calls Try.prog 65 #[s.v] w fun e w' => e = .returned (.string (mk (runBytes s))) ∧ Below w.heap.size w w' := by
  obtain ⟨a, z, d⟩ := s
  obtain ⟨s0, s1, s2, s3, s4⟩ := h
  dsimp only at s0 s1 s2 s3 s4 hd
  simp only [Seg.v]
  have hcv := conv_new3 w (.cells #[.int .i64 a, .int .i64 z, .string d] 43) a z d.size
  obtain ⟨q, hq⟩ : ∃ q, q = mk [byteOf a, byteOf z, byteOf d.size] := ⟨_, rfl⟩
  have hqs : q.size = 3 := by rw [hq, mk_size]; rfl
  rw [← hq] at hcv
  have HQ : Hid (q ++ d = mk (runBytes ⟨a, z, d⟩)) := by
    unfold Hid; rw [hq, ← mk_list d, mk_append, mk_list]; rfl
  clear hq
  go_enter Try.func65, Try.ntmps65
  go_wp2
  go_ret
  exact ⟨ret_str HQ.out, ((Below.refl _ _).alloc (Nat.le_refl _) _).alloc (by simp) _⟩

end Go.Proofs.Ytcokahccbjdeaaa
