import Derived.Test.YtcokahccbjdeaaaChipD
namespace Go.Proofs.Ytcokahccbjdeaaa
open Go.RowKit
set_option maxRecDepth 100000 in
set_option maxHeartbeats 2000000 in
theorem read_ok (w : World) (b g : Nat) (c : ChipS) (o n : Nat) (h1 : (o : Int) ≤ 1024) (h2 : (n : Int) ≤ 1024 - o) (h : ChipAt w b g c) :
    Calls Try.prog 35 #[.pointer (some ⟨b, 0, none⟩), .int .i64 o, .int .i64 n] w fun e w' => e = .returned (.string ⟨((c.cells.drop o).take n).toArray⟩) ∧ w' = w := by
  have c0 : w.cell? ⟨b, 0, none⟩ = some (.slice (some ⟨g, 0, none⟩) 1024 1024) := by rw [cell_of_heap h.hb]; rfl
  have hl := h.len
  by_cases ho : (1024 : Nat) = o
  · subst ho
    have hn : n = 0 := by omega
    subst hn
    have hcv := conv_row w g 0 0 0 c.cells _ h.hg (by omega)
    clear h hl
    go_enter Try.func35, Try.ntmps35
    go_wp2
    go_ret
    exact ⟨ret_str (by simp), rfl⟩
  · have ho' : (o : Int) < 1024 := by omega
    have hcv := conv_row w g o n (1024 - o) c.cells _ h.hg (by omega)
    clear h hl
    go_enter Try.func35, Try.ntmps35
    go_wp2
    go_ret
    exact ⟨rfl, rfl⟩

set_option maxRecDepth 100000 in
set_option maxHeartbeats 2000000 in
theorem read_none (w : World) (b g : Nat) (c : ChipS) (o n : Int) (ho1 : o < 9223372036854775808) (ho0 : -9223372036854775808 ≤ o) (hn1 : n < 9223372036854775808) (hn0 : -9223372036854775808 ≤ n) (h : ChipAt w b g c) (hbad : o < 0 ∨ n < 0 ∨ 1024 < o ∨ 1024 - o < n) :
    Calls Try.prog 35 #[.pointer (some ⟨b, 0, none⟩), .int .i64 o, .int .i64 n] w fun e w' => e = .returned (.string ByteArray.empty) ∧ w' = w := by
  have c0 : w.cell? ⟨b, 0, none⟩ = some (.slice (some ⟨g, 0, none⟩) 1024 1024) := by rw [cell_of_heap h.hb]; rfl
  clear h
  by_cases h1 : o < 0
  · clear hbad
    go_enter Try.func35, Try.ntmps35
    go_wp2
    go_ret
    exact ⟨rfl, rfl⟩
  by_cases h2 : n < 0
  · clear hbad
    go_enter Try.func35, Try.ntmps35
    go_wp2
    go_ret
    exact ⟨rfl, rfl⟩
  by_cases h3 : 1024 < o
  · clear hbad
    go_enter Try.func35, Try.ntmps35
    go_wp2
    go_ret
    exact ⟨rfl, rfl⟩
  · have h4 : 1024 - o < n := by omega
    clear hbad
    go_enter Try.func35, Try.ntmps35
    go_wp2
    go_ret
    exact ⟨rfl, rfl⟩

theorem read_any (w : World) (b g : Nat) (c : ChipS) (o n : Int) (ho1 : o < 9223372036854775808) (ho0 : -9223372036854775808 ≤ o) (hn1 : n < 9223372036854775808) (hn0 : -9223372036854775808 ≤ n) (h : ChipAt w b g c) :
    Calls Try.prog 35 #[.pointer (some ⟨b, 0, none⟩), .int .i64 o, .int .i64 n] w fun e w' => e = .returned (.string (c.read o n)) ∧ w' = w := by
  unfold ChipS.read
  by_cases hbad : o < 0 ∨ n < 0 ∨ 1024 < o ∨ 1024 - o < n
  · rw [if_pos hbad]; exact read_none w b g c o n ho1 ho0 hn1 hn0 h hbad
  · rw [if_neg hbad]
    obtain ⟨o, rfl⟩ : ∃ k : Nat, o = k := ⟨o.toNat, by omega⟩
    obtain ⟨n, rfl⟩ : ∃ k : Nat, n = k := ⟨n.toNat, by omega⟩
    exact read_ok w b g c o n (by omega) (by omega) h

set_option maxRecDepth 100000 in
theorem ops_any (w : World) (b g : Nat) (c : ChipS) (h : ChipAt w b g c) :
    Calls Try.prog 37 #[.pointer (some ⟨b, 0, none⟩)] w fun e w' => e = .returned (.int .i64 c.ops) ∧ w' = w := by
  have c5 : w.cell? ⟨b, 5, none⟩ = some (.int .i64 c.ops) := by rw [cell_of_heap h.hb]; rfl
  clear h
  go_enter Try.func37, Try.ntmps37
  go_wp2
  go_ret
  exact ⟨rfl, rfl⟩
set_option maxRecDepth 100000 in
theorem dead_any (w : World) (b g : Nat) (c : ChipS) (h : ChipAt w b g c) :
    Calls Try.prog 38 #[.pointer (some ⟨b, 0, none⟩)] w fun e w' => e = .returned (.bool c.dead) ∧ w' = w := by
  have c4 : w.cell? ⟨b, 4, none⟩ = some (.bool c.dead) := by rw [cell_of_heap h.hb]; rfl
  clear h
  go_enter Try.func38, Try.ntmps38
  go_wp2
  go_ret
  exact ⟨rfl, rfl⟩

theorem ChipAt.setB {w w' : World} {b g : Nat} {c c' : ChipS} (h : ChipAt w b g c) (hb' : w'.heap[b]? = some (.cells (chipV g c') 71 (0, 0))) (ho : Only (· = b) w w') (e1 : c'.cells = c.cells) (e2 : 0 ≤ c'.ops) (e3 : c'.left < 9223372036854775808) (e4 : -9223372036854775808 ≤ c'.left) (e5 : c'.torn.size < 4611686018427387904) : ChipAt w' b g c' := by
  have hlt : g < w.heap.size := (Array.getElem?_eq_some_iff.1 h.hg).1
  have hne := h.ne
  exact ⟨hb', by rw [e1, ho.block g hlt (fun e => hne e.symm)]; exact h.hg, by rw [e1]; exact h.len, e2, e3, e4, e5⟩

def ChipS.cut (c : ChipS) (n : Int) (t : ByteArray) : ChipS := { c with armed := true, left := n, torn := t }
def ChipS.restore (c : ChipS) : ChipS := { c with armed := false, dead := false }

set_option maxRecDepth 100000 in
theorem cut_any (w : World) (b g : Nat) (c : ChipS) (n : Int) (t : ByteArray) (hn1 : n < 9223372036854775808) (hn0 : -9223372036854775808 ≤ n) (ht : t.size < 4611686018427387904) (h : ChipAt w b g c) :
    Calls Try.prog 41 #[.pointer (some ⟨b, 0, none⟩), .int .i64 n, .string t] w fun e w' => e = .returned (.tuple #[]) ∧ ChipAt w' b g (c.cut n t) ∧ Only (fun k => k = b ∨ k = g) w w' ∧ w'.heap.size = w.heap.size := by
  obtain ⟨l, ar, lf, tn, dd, op⟩ := c
  have hb := h.hb
  simp only [chipV] at hb
  have c1 : w.cell? ⟨b, 1, none⟩ = some (.bool ar) := by rw [cell_of_heap hb]; rfl
  have c2 : w.cell? ⟨b, 2, none⟩ = some (.int .i64 lf) := by rw [cell_of_heap hb]; rfl
  have c3 : w.cell? ⟨b, 3, none⟩ = some (.string tn) := by rw [cell_of_heap hb]; rfl
  have f : ∀ o, w.frozen? ⟨b, o, none⟩ = false := fun o => free_of_heap hb
  have HB : Hid (w.heap[b]? = some (.cells #[.slice (some ⟨g, 0, none⟩) 1024 1024, .bool ar, .int .i64 lf, .string tn, .bool dd, .int .i64 op] 71 (0, 0))) := hb
  clear hb
  go_enter Try.func41, Try.ntmps41
  go_wp2
  refine bodyPost_end (results_none rfl _ _ _) rfl ?_
  have hon : Only (· = b) w (((w.setCell ⟨b, 1, none⟩ (.bool true)).setCell ⟨b, 2, none⟩ (.int .i64 n)).setCell ⟨b, 3, none⟩ (.string t)) := by
    repeat (first | exact Only.refl _ _ | refine Only.setCell ?_ (by exact rfl) _)
  refine ⟨rfl, h.setB ?_ hon rfl h.ops0 hn1 hn0 ht, hon.mono (fun k hk => Or.inl hk), by simp⟩
  rw [heap_setCell_at _ _ _ _ _ _ _ (heap_setCell_at _ _ _ _ _ _ _ (heap_setCell_at _ _ _ _ _ _ _ HB.out))]; rfl

set_option maxRecDepth 100000 in
theorem restore_any (w : World) (b g : Nat) (c : ChipS) (h : ChipAt w b g c) :
    Calls Try.prog 42 #[.pointer (some ⟨b, 0, none⟩)] w fun e w' => e = .returned (.tuple #[]) ∧ ChipAt w' b g c.restore ∧ Only (fun k => k = b ∨ k = g) w w' ∧ w'.heap.size = w.heap.size := by
  obtain ⟨l, ar, lf, tn, dd, op⟩ := c
  have hb := h.hb
  simp only [chipV] at hb
  have c1 : w.cell? ⟨b, 1, none⟩ = some (.bool ar) := by rw [cell_of_heap hb]; rfl
  have c4 : w.cell? ⟨b, 4, none⟩ = some (.bool dd) := by rw [cell_of_heap hb]; rfl
  have f : ∀ o, w.frozen? ⟨b, o, none⟩ = false := fun o => free_of_heap hb
  have HB : Hid (w.heap[b]? = some (.cells #[.slice (some ⟨g, 0, none⟩) 1024 1024, .bool ar, .int .i64 lf, .string tn, .bool dd, .int .i64 op] 71 (0, 0))) := hb
  clear hb
  go_enter Try.func42, Try.ntmps42
  go_wp2
  refine bodyPost_end (results_none rfl _ _ _) rfl ?_
  have hon : Only (· = b) w ((w.setCell ⟨b, 1, none⟩ (.bool false)).setCell ⟨b, 4, none⟩ (.bool false)) := by
    repeat (first | exact Only.refl _ _ | refine Only.setCell ?_ (by exact rfl) _)
  refine ⟨rfl, h.setB ?_ hon rfl h.ops0 h.left1 h.left0 h.tn, hon.mono (fun k hk => Or.inl hk), by simp⟩
  rw [heap_setCell_at _ _ _ _ _ _ _ (heap_setCell_at _ _ _ _ _ _ _ HB.out)]; rfl
end Go.Proofs.Ytcokahccbjdeaaa
