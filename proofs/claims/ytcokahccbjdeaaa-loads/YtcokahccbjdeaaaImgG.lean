import Derived.Test.YtcokahccbjdeaaaImgF
namespace Go.Proofs.Ytcokahccbjdeaaa
open Go.RowKit

theorem byteOf_id (n : Int) (h0 : 0 ≤ n) (h1 : n < 256) : Value.int .u8 n = Value.int .u8 ((byteOf n).toNat : Int) := by
  have e := byteOf_val n
  rwa [Int.emod_eq_of_lt h0 h1] at e
/-- a row of bytes that is built in a statement -/
theorem conv_head (w : World) (o : Obj) (x y z u : Int) (x0 : 0 ≤ x ∧ x < 256) (y0 : 0 ≤ y ∧ y < 256) (z0 : 0 ≤ z ∧ z < 256) (u0 : 0 ≤ u ∧ u < 256) :
    (convert 49 9 (.slice (some ⟨w.heap.size + 1, 0, none⟩) 6 6)).run Try.prog ((w.alloc o).alloc (.cells #[.int .u8 84, .int .u8 66, .int .u8 x, .int .u8 y, .int .u8 z, .int .u8 u] 5)) =
      .ok (.string (mk [84, 66, byteOf x, byteOf y, byteOf z, byteOf u])) ((w.alloc o).alloc (.cells #[.int .u8 84, .int .u8 66, .int .u8 x, .int .u8 y, .int .u8 z, .int .u8 u] 5)) :=
  conv_cells _ _ 6 _ [84, 66, byteOf x, byteOf y, byteOf z, byteOf u] _ (heap_alloc2_new w o _) (by
    rw [byteOf_id x x0.1 x0.2, byteOf_id y y0.1 y0.2, byteOf_id z z0.1 z0.2, byteOf_id u u0.1 u0.2]; rfl)
theorem conv_tail (w : World) (x y : Int) (x0 : 0 ≤ x ∧ x < 256) (y0 : 0 ≤ y ∧ y < 256) :
    (convert 49 9 (.slice (some ⟨w.heap.size, 0, none⟩) 2 2)).run Try.prog (w.alloc (.cells #[.int .u8 x, .int .u8 y] 5)) =
      .ok (.string (mk [byteOf x, byteOf y])) (w.alloc (.cells #[.int .u8 x, .int .u8 y] 5)) :=
  conv_cells _ _ 2 _ [byteOf x, byteOf y] _ (heap_alloc_new w _) (by
    rw [byteOf_id x x0.1 x0.2, byteOf_id y y0.1 y0.2]; rfl)

theorem flat_len (l : List Seg) (n : Nat) (h : ∀ s ∈ l, s.data.size ≤ n) : (l.flatMap runBytes).length ≤ l.length * (n + 3) := by
  induction l with
  | nil => simp
  | cons s r ih =>
    have h1 := h s (by simp)
    have h2 := ih (fun x hx => h x (by simp [hx]))
    have h3 : s.data.data.toList.length = s.data.size := rfl
    simp only [List.flatMap_cons, List.length_append, List.length_cons, runBytes, List.length_nil, h3]
    have : (r.length + 1) * (n + 3) = r.length * (n + 3) + (n + 3) := by rw [Nat.add_mul]; omega
    omega

set_option maxRecDepth 100000 in
set_option maxHeartbeats 4000000 in
theorem encode_any (w : World) (v e : Int) (a : Option Addr) (b o cap : Nat) (l : List Seg) (ha : l ≠ [] → a = some ⟨b, o, none⟩) (hl : SegsAt w b o l) (hok : ∀ s ∈ l, s.ok ∧ s.data.size ≤ 128) (hb : l ≠ [] → b < w.heap.size) (hlen : l.length ≤ 128)
    (hv0 : 0 ≤ v) (hv1 : v ≤ 65535) (he0 : 0 ≤ e) (he1 : e < 128) :
    Calls Try.prog 60 #[.agg #[.int .i64 v, .int .i64 e, .slice a l.length cap]] w fun en w' => en = .returned (.string (mk (textOf v e l))) ∧ Below w.heap.size w w' := by
  have hcv := conv_head w (.cells #[.int .i64 v, .int .i64 e, .slice a l.length cap] 82) (v / 256) (v % 256) e l.length (by omega) (by omega) (by omega) (by omega)
  obtain ⟨hd, hhd⟩ : ∃ hd, hd = [84, 66, byteOf (v / 256), byteOf (v % 256), byteOf e, byteOf l.length] := ⟨_, rfl⟩
  rw [← hhd] at hcv
  have hdl : hd.length = 6 := by rw [hhd]; rfl
  have HB : Hid (bodyOf v e l = hd ++ l.flatMap runBytes) := by unfold Hid; rw [hhd]; rfl
  have HT : Hid (textOf v e l = bodyOf v e l ++ [byteOf (checkOf (bodyOf v e l) / 256 : Nat), byteOf (checkOf (bodyOf v e l) % 256 : Nat)]) := rfl
  clear hhd
  go_enter Try.func60, Try.ntmps60
  go_wp2
  go_loopw [4, 5] (fun t i wr => ∃ k : Nat, k ≤ l.length ∧ i = .int .i64 k ∧ (∃ q : ByteArray, t = .string q ∧ q.size ≤ 20000 ∧ Hid (q = mk (hd ++ (l.take k).flatMap runBytes))) ∧ wr.heap[w.heap.size]? = some (.cells #[.int .i64 v, .int .i64 e, .slice a l.length cap] 82 (0, 0)) ∧ Below w.heap.size w wr) (fun _ i _ => l.length - (intOf i).toNat)
  case atStart =>
    refine ⟨0, by omega, rfl, ⟨_, rfl, by rw [mk_size, hdl]; omega, by simp [Hid]⟩, by rw [heap_alloc2_old], ((Below.refl _ _).alloc (Nat.le_refl _) _).alloc (by simp) _⟩
  case round =>
    obtain ⟨k, hk, rfl, ⟨q, rfl, hq, hqe⟩, hbx, hbel⟩ := hrel
    have d0 : wr.cell? ⟨w.heap.size, 2, none⟩ = some (.slice a l.length cap) := by rw [cell_of_heap hbx]; rfl
    have hlen' : (l.length : Int) ≤ 128 := by omega
    by_cases hlt : k < l.length
    · have hne : l ≠ [] := by intro e; simp [e] at hlt
      obtain rfl := ha hne
      have hb' := hb hne
      obtain ⟨c1, c2, c3⟩ := hl k hlt
      have d1 : wr.cell? ⟨b, o + k * 3, none⟩ = some (.int .i64 l[k].addr) := (hbel.cell (p := ⟨b, o + k * 3, none⟩) hb').trans c1
      have d2 : wr.cell? ⟨b, o + k * 3 + 1, none⟩ = some (.int .i64 l[k].size) := (hbel.cell (p := ⟨b, o + k * 3 + 1, none⟩) hb').trans c2
      have d3 : wr.cell? ⟨b, o + k * 3 + 2, none⟩ = some (.string l[k].data) := (hbel.cell (p := ⟨b, o + k * 3 + 2, none⟩) hb').trans c3
      clear c1 c2 c3
      have hsok := hok l[k] (List.getElem_mem hlt)
      have hR := encodeRun_any wr l[k] hsok.1 (by have := hsok.2; omega)
      have hrl : (mk (runBytes l[k])).size ≤ 131 := by
        rw [mk_size]
        have h3 : l[k].data.data.toList.length = l[k].data.size := rfl
        simp only [runBytes, List.length_append, List.length_cons, List.length_nil, h3]
        have := hsok.2; omega
      have hq2 : Hid (q ++ mk (runBytes l[k]) = mk (hd ++ (l.take (k + 1)).flatMap runBytes)) := by
        unfold Hid
        rw [hqe.out, mk_append, List.take_succ_eq_append_getElem hlt, List.flatMap_append, List.append_assoc]; simp
      have hq3 : Hid ((mk (hd ++ (l.take (k + 1)).flatMap runBytes)).size ≤ 20000) := by
        unfold Hid
        rw [mk_size, List.length_append, hdl]
        have := flat_len (l.take (k + 1)) 128 (fun s hs => (hok s (List.mem_of_mem_take hs)).2)
        have hlt2 : (l.take (k + 1)).length ≤ 128 := by simp; omega
        have : (l.take (k + 1)).length * 131 ≤ 128 * 131 := Nat.mul_le_mul_right _ hlt2
        omega
      obtain ⟨rb, hrb⟩ : ∃ rb, rb = mk (runBytes l[k]) := ⟨_, rfl⟩
      rw [← hrb] at hR hrl hq2
      clear hrb
      go_wp2_with (go_at_call 65; refine hR.mono ?_; rintro en w2 ⟨rfl, hb2⟩)
      go_roundw
      case rel =>
        refine ⟨k + 1, by omega, by go_num, ⟨_, rfl, ?_, hq2⟩, ?_, hbel.trans (hb2.mono hbel.size)⟩
        · rw [hq2.out]; exact hq3.out
        · rw [hb2.block _ (Array.getElem?_eq_some_iff.1 hbx).1]; exact hbx
      case measure => simp [intOf]; omega
    · have hqb : Hid (q = mk (bodyOf v e l)) := by
        unfold Hid; rw [hqe.out, List.take_of_length_le (by omega), HB.out]
      have hck := check_any wr (bodyOf v e l) (by
        have := hq
        rw [hqb.out, mk_size] at this
        omega)
      rw [← hqb.out] at hck
      obtain ⟨x, hx⟩ : ∃ x, x = checkOf (bodyOf v e l) := ⟨_, rfl⟩
      have hxl : (x : Int) < 65521 := by have := checkOf_lt (bodyOf v e l); omega
      rw [← hx] at hck
      have hct := conv_tail wr ((x : Int) / 256) ((x : Int) % 256) (by omega) (by omega)
      have HF : Hid (q ++ mk [byteOf ((x : Int) / 256), byteOf ((x : Int) % 256)] = mk (textOf v e l)) := by
        unfold Hid
        rw [hqb.out, mk_append, HT.out, ← hx]
        congr 3
      obtain ⟨tl, htl⟩ : ∃ tl, tl = mk [byteOf ((x : Int) / 256), byteOf ((x : Int) % 256)] := ⟨_, rfl⟩
      have htz : tl.size = 2 := by rw [htl, mk_size]; rfl
      rw [← htl] at hct HF
      clear hx htl
      go_wp2_with (go_at_call 66; refine hck.mono ?_; rintro en w2 ⟨rfl, rfl⟩)
      go_ret
      exact ⟨ret_str HF.out, hbel.alloc hbel.size _⟩
end Go.Proofs.Ytcokahccbjdeaaa
