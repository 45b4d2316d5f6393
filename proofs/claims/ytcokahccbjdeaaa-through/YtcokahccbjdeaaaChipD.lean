import Derived.Test.YtcokahccbjdeaaaChipC
namespace Go.Proofs.Ytcokahccbjdeaaa
open Go.RowKit

theorem conv_row (w : World) (g o n cap : Nat) (l : List UInt8) (fz : Nat × Nat) (hg : w.heap[g]? = some (.cells (bytesV l) 5 fz)) (h : o + n ≤ l.length) :
    (convert 49 9 (.slice (some ⟨g, o, none⟩) n cap)).run Try.prog w = .ok (.string ⟨((l.drop o).take n).toArray⟩) w := by
  have hl : ((l.drop o).take n).length = n := by simp; omega
  have := run_convert_bytes_back (P := Try.prog) w 49 9 5 ⟨g, o, none⟩ cap ((l.drop o).take n) Try.underlying49 Try.underlying5 Try.underlying9 (by
    intro j hj
    have ha : (⟨g, o, none⟩ : Addr).add j = ⟨g, o + j, none⟩ := by simp [Addr.add]
    rw [ha, cell_of_heap hg, bytesV_get l (o + j) (by omega)]
    rw [getD_get l (o + j) (by omega)]
    simp)
  rw [hl] at this
  exact this

theorem Try.info5 : (Try.prog.info? 5).map (fun i => (i.zero, i.size, i.bytes)) = some (some (.int .u8 0), 1, 1) := by kernel_rfl

theorem madeCells_bytes (n : Nat) : madeCells (Value.int .u8 0).cells (n * 1) = bytesV (List.replicate n 0) := by
  apply Array.ext'
  rw [show (Value.int .u8 0).cells = #[.int .u8 0] from rfl, toList_madeCells_one]
  simp [bytesV]

theorem make_row (w : World) (kl kc : IntKind) (n : Nat) (h : n ≤ 140737488355328) :
    (Instr.makeSlice 49 (.int kl (n : Int)) (.int kc (n : Int))).run Try.prog w = .ok (.slice (some ⟨w.heap.size, 0, none⟩) n n) (w.alloc (.cells (bytesV (List.replicate n 0)) 5)) := by
  obtain ⟨i, hi, h0, h1, h2⟩ := info_parts Try.info5
  have := run_make (P := Try.prog) w 49 5 i _ Try.underlying49 hi h0 kl kc n n (by omega) (by omega) (by rw [h2]; omega) (by omega)
  rw [this, h1, Int.toNat_natCast, madeCells_bytes]

theorem fill_step (n k : Nat) (x : UInt8) (h : k < n) : (List.replicate k x ++ List.replicate (n - k) (0 : UInt8)).set k x = List.replicate (k + 1) x ++ List.replicate (n - (k + 1)) 0 := by
  rw [List.set_append_right _ _ (by simp)]
  obtain ⟨m, hm⟩ : ∃ m, n - k = m + 1 := ⟨n - k - 1, by omega⟩
  rw [hm, show n - (k + 1) = m from by omega]
  rw [List.length_replicate, Nat.sub_self, List.replicate_succ, List.set_cons_zero, List.replicate_succ', List.append_assoc]; rfl
theorem fill_get (n k : Nat) (x : UInt8) (h : k < n) : (List.replicate k x ++ List.replicate (n - k) (0 : UInt8)).getD k 0 = 0 := by
  rw [List.getD_eq_getElem?_getD, List.getElem?_append_right (by simp), List.getElem?_replicate, if_pos (by simp; omega)]; rfl

set_option maxRecDepth 100000 in
set_option maxHeartbeats 1000000 in
theorem filled_any (w : World) (x : UInt8) (n : Nat) (hn : n ≤ 1048576) :
    Calls Try.prog 36 #[.int .u8 x.toNat, .int .i64 n] w fun e w' => e = .returned (.string ⟨(List.replicate n x).toArray⟩) ∧ Below w.heap.size w w' := by
  have hmk := make_row w .i64 .i64 n (by omega)
  go_enter Try.func36, Try.ntmps36
  go_wp2
  go_loopw [6] (fun i wr => ∃ k : Nat, k ≤ n ∧ i = .int .i64 k ∧ wr.heap[w.heap.size]? = some (.cells (bytesV (List.replicate k x ++ List.replicate (n - k) 0)) 5 (0, 0)) ∧ Below w.heap.size w wr ∧ w.heap.size < wr.heap.size) (fun i _ => n - (intOf i).toNat)
  case atStart =>
    refine ⟨0, by omega, rfl, ?_, (Below.refl _ _).alloc (Nat.le_refl _) _, by simp⟩
    rw [heap_alloc_new]; simp
  case round =>
    obtain ⟨k, hk, rfl, hh, hbl, hsz⟩ := hrel
    by_cases hlt : k < n
    · have hf : ∀ o, wr.frozen? ⟨w.heap.size, o, none⟩ = false := fun o => free_of_heap hh
      have hc : wr.cell? ⟨w.heap.size, k, none⟩ = some (.int .u8 ((0 : UInt8).toNat : Int)) := by
        rw [cell_of_heap hh, bytesV_get _ _ (by simp; omega), fill_get n k x hlt]
      go_wp2
      go_roundw
      case rel =>
        refine ⟨k + 1, by omega, by go_num, ?_, hbl.setCell (Nat.le_refl _) _, by simpa using hsz⟩
        rw [heap_setCell_at _ _ _ _ _ _ _ hh, bytesV_set]
        rw [fill_step n k x hlt]
      case measure => simp [intOf]; omega
    · have hkn : k = n := by omega
      subst hkn
      have hcv := conv_row wr w.heap.size 0 k k _ _ hh (by simp)
      go_wp2
      go_ret
      exact ⟨ret_str (by simp), hbl⟩

def newChip : ChipS := ⟨List.replicate 1024 255, false, 0, ByteArray.empty, false, 0⟩

set_option maxRecDepth 100000 in
set_option maxHeartbeats 1000000 in
theorem new_any (w : World) :
    Calls Try.prog 34 #[] w fun e w' => e = .returned (.pointer (some ⟨w.heap.size + 1, 0, none⟩)) ∧ ChipAt w' (w.heap.size + 1) w.heap.size newChip ∧ Below w.heap.size w w' ∧ w'.heap.size = w.heap.size + 2 := by
  have hmk : (Instr.makeSlice 49 (.int .i64 1024) (.int .i64 1024)).run Try.prog w = .ok (.slice (some ⟨w.heap.size, 0, none⟩) 1024 1024) (w.alloc (.cells (bytesV (List.replicate 1024 0)) 5)) := make_row w .i64 .i64 1024 (by omega)
  obtain ⟨z, hz⟩ : ∃ z, z = bytesV (List.replicate 1024 0) := ⟨_, rfl⟩
  have HZ : Hid (z = bytesV (List.replicate 1024 0)) := hz
  rw [← hz] at hmk
  clear hz
  go_enter Try.func34, Try.ntmps34
  go_wp2
  go_loopw [2] (fun i wr => ∃ k : Nat, k ≤ 1024 ∧ i = .int .i64 k ∧ ChipAt wr (w.heap.size + 1) w.heap.size ⟨List.replicate k 255 ++ List.replicate (1024 - k) 0, false, 0, ByteArray.empty, false, 0⟩ ∧ Below w.heap.size w wr ∧ wr.heap.size = w.heap.size + 2) (fun i _ => 1024 - (intOf i).toNat)
  case atStart =>
    refine ⟨0, by omega, rfl, ?_, ((Below.refl _ _).alloc (Nat.le_refl _) _).alloc (by simp) _, by simp⟩
    rw [HZ.out]
    refine ⟨?_, ?_, by simp, by simp, by simp, by simp, by simp⟩
    · rw [heap_alloc2_new]; rfl
    · rw [heap_alloc2_old]; simp
  case round =>
    obtain ⟨k, hk, rfl, hc, hbl, hsz⟩ := hrel
    have c0 : wr.cell? ⟨w.heap.size + 1, 0, none⟩ = some (.slice (some ⟨w.heap.size, 0, none⟩) 1024 1024) := by rw [cell_of_heap hc.hb]; rfl
    by_cases hlt : k < 1024
    · have hf : ∀ o, wr.frozen? ⟨w.heap.size, o, none⟩ = false := fun o => free_of_heap hc.hg
      have hcc : wr.cell? ⟨w.heap.size, k, none⟩ = some (.int .u8 ((0 : UInt8).toNat : Int)) := by
        rw [cell_of_heap hc.hg, bytesV_get _ _ (by simp; omega)]
        show some (Value.int IntKind.u8 _) = _
        rw [fill_get 1024 k 255 hlt]
      go_wp2
      go_roundw
      case rel =>
        refine ⟨k + 1, by omega, by go_num, ?_, hbl.setCell (Nat.le_refl _) _, by simpa using hsz⟩
        have := hc.set k 255
        rw [fill_step 1024 k 255 hlt] at this
        exact this
      case measure => simp [intOf]; omega
    · have hkn : k = 1024 := by omega
      subst hkn
      go_wp2
      go_ret
      exact ⟨rfl, by simpa [newChip] using hc, hbl, hsz⟩

def ChipS.read (c : ChipS) (o n : Int) : ByteArray :=
  if o < 0 ∨ n < 0 ∨ 1024 < o ∨ 1024 - o < n then ByteArray.empty else ⟨((c.cells.drop o.toNat).take n.toNat).toArray⟩

end Go.Proofs.Ytcokahccbjdeaaa
