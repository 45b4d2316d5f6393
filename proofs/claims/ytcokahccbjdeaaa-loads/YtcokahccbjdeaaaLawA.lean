import Derived.Test.YtcokahccbjdeaaaRefC
namespace Go.Proofs.Ytcokahccbjdeaaa
open Go.RowKit

theorem run_copy_segs (w : World) (ty : TypeId) (g n sCap : Nat) (a : Addr) (cur : Array Value) (t : TypeId) (cs : List Value)
    (hg : w.heap[g]? = some (.cells cur t (0, 0))) (hn : cs.length = n * 3)
    (hsrc : ∀ j v, cs[j]? = some v → w.cell? (a.add j) = some v) (hfit : cs.length ≤ cur.size) (h1 : ∀ v ∈ cs, v.oneCell' = true) :
    (Builtin.copy_ #[23, 23] ty #[.slice (some ⟨g, 0, none⟩) (n + 1) (n + 1), .slice (some a) n sCap]).run Try.prog w =
      .ok (goInt n) (w.setRow g (cs ++ cur.toList.drop cs.length).toArray) := by
  have hl := run_loadCells_list (P := Try.prog) w a cs hsrc
  have hst := run_storeCells_at Try.prog g 0 t cs 0 cur w hg (by simpa using hfit) h1
  obtain ⟨i, hi, h0, h1, h2⟩ := info_parts Try.info43
  have hmin : Nat.min n (n + 1) = n := Nat.min_eq_left (by omega)
  rw [hn] at hl
  simp [Builtin.copy_, run_underlying Try.underlying23, Builtin.lenOf, Builtin.firstCells, sizeOf, typeInfo, hi, h1, hmin, hl, hst]

def markSeg : Seg := ⟨-7, -7, ⟨#[109, 97, 114, 107]⟩⟩

theorem seg_one (l : List Seg) : ∀ v ∈ segCells l, v.oneCell' = true := by
  intro v hv
  unfold segCells at hv
  obtain ⟨s, _, h⟩ := List.mem_flatMap.1 hv
  simp at h
  rcases h with rfl | rfl | rfl <;> rfl

theorem segs_src {w : World} {b o : Nat} {l : List Seg} (h : SegsAt w b o l) : ∀ (j : Nat) (v : Value), (segCells l)[j]? = some v → w.cell? (Addr.add ⟨b, o, none⟩ j) = some v := by
  intro j v hv
  have hj : j < l.length * 3 := by
    have := (List.getElem?_eq_some_iff.1 hv).1
    rwa [segCells_length] at this
  have ha : (⟨b, o, none⟩ : Addr).add j = ⟨b, o + j, none⟩ := by cases j <;> simp [Addr.add]
  rw [ha]
  have hi : j / 3 < l.length := by omega
  obtain ⟨c1, c2, c3⟩ := h (j / 3) hi
  obtain ⟨g1, g2, g3⟩ := segCells_get l (j / 3) hi
  have hm : j % 3 = 0 ∨ j % 3 = 1 ∨ j % 3 = 2 := by omega
  rcases hm with hm | hm | hm
  · rw [show o + j = o + j / 3 * 3 by omega, c1, ← g1, ← hv, show j / 3 * 3 = j by omega]
  · rw [show o + j = o + j / 3 * 3 + 1 by omega, c2, ← g2, ← hv, show j / 3 * 3 + 1 = j by omega]
  · rw [show o + j = o + j / 3 * 3 + 2 by omega, c3, ← g3, ← hv, show j / 3 * 3 + 2 = j by omega]

theorem make_segs (w : World) (n : Nat) (h : n * 32 ≤ 281474976710656) :
    ∃ cur : Array Value, cur.size = n * 3 ∧ (Instr.makeSlice 23 (.int .i64 (n : Int)) (.int .i64 (n : Int))).run Try.prog w = .ok (.slice (some ⟨w.heap.size, 0, none⟩) n n) (w.alloc (.cells cur 43)) := by
  obtain ⟨i, hi, h0, h1, h2⟩ := info_parts Try.info43
  have := run_make (P := Try.prog) w 23 43 i _ Try.underlying23 hi h0 .i64 .i64 n n (by omega) (by omega) (by rw [h2]; omega) (by omega)
  rw [h1, Int.toNat_natCast] at this
  exact ⟨_, size_madeCells _ _, this⟩

theorem set3 (A : List Value) (n : Nat) (c0 c1 c2 x y z : Value) (h : A.length = n * 3) :
    (((A ++ [c0, c1, c2]).toArray.setIfInBounds (n * 3) x).setIfInBounds (n * 3 + 1) y).setIfInBounds (n * 3 + 2) z = (A ++ [x, y, z]).toArray := by
  simp only [List.setIfInBounds_toArray]
  rw [List.set_append_right _ _ (by omega), List.set_append_right _ _ (by omega), List.set_append_right _ _ (by omega), h]
  simp [Nat.add_sub_cancel_left]
theorem three (l : List Value) (h : l.length = 3) : ∃ a b c, l = [a, b, c] := by
  match l, h with
  | [a, b, c], _ => exact ⟨a, b, c, rfl⟩

set_option maxRecDepth 100000 in
set_option maxHeartbeats 2000000 in
theorem lent_any (w : World) (a : Option Addr) (b o cap : Nat) (l : List Seg) (ha : l ≠ [] → a = some ⟨b, o, none⟩) (h0 : a = none → cap = 0) (hl : SegsAt w b o l) (hb : l ≠ [] → b < w.heap.size) (hlen : (l.length + 1) * 32 ≤ 281474976710656) :
    Calls Try.prog 13 #[.slice a l.length cap] w fun e w' => e = .returned (.slice (some ⟨w.heap.size, 0, none⟩) l.length (l.length + 1)) ∧ w'.heap[w.heap.size]? = some (.cells (segCells (l ++ [markSeg])).toArray 43 (0, 0)) ∧ Below w.heap.size w w' := by
  obtain ⟨cur, hcs, hmk⟩ := make_segs w (l.length + 1) hlen
  have ec : ((l.length + 1 : Nat) : Int) = (l.length : Int) + 1 := by omega
  rw [ec] at hmk
  have hl' : SegsAt (w.alloc (.cells cur 43)) b o l := by
    intro i hi
    have hne : l ≠ [] := by intro e; simp [e] at hi
    have hbb := hb hne
    have hbl : Below w.heap.size w (w.alloc (.cells cur 43)) := (Below.refl _ _).alloc (Nat.le_refl _) _
    obtain ⟨c1, c2, c3⟩ := hl i hi
    exact ⟨(hbl.cell (p := ⟨b, o + i * 3, none⟩) hbb).trans c1, (hbl.cell (p := ⟨b, o + i * 3 + 1, none⟩) hbb).trans c2, (hbl.cell (p := ⟨b, o + i * 3 + 2, none⟩) hbb).trans c3⟩
  obtain ⟨c0, c1, c2, hdrop⟩ := three (cur.toList.drop (l.length * 3)) (by simp [hcs]; omega)
  -- the copy, in either case
  have hcp : ∃ w2 : World, (Builtin.copy_ #[23, 23] 3 #[.slice (some ⟨w.heap.size, 0, none⟩) (l.length + 1) (l.length + 1), .slice a l.length cap]).run Try.prog (w.alloc (.cells cur 43)) = .ok (.int .i64 (l.length : Int)) w2 ∧
      w2.heap[w.heap.size]? = some (.cells (segCells l ++ [c0, c1, c2]).toArray 43 (0, 0)) ∧ Below w.heap.size w w2 := by
    have hbl : Below w.heap.size w (w.alloc (.cells cur 43)) := (Below.refl _ _).alloc (Nat.le_refl _) _
    cases a with
    | none =>
      have hl0 : l = [] := by
        by_cases h : l = []
        · exact h
        · have := ha h; cases this
      subst hl0
      have hc0 := h0 rfl
      subst hc0
      refine ⟨_, run_copy_nil Try.prog _ 23 23 3 43 _ _ _ Try.underlying23 (by kernel_rfl), ?_, hbl⟩
      rw [heap_alloc_new]
      simp only [List.length_nil, Nat.zero_mul, List.drop_zero] at hdrop
      simp only [segCells, List.flatMap_nil, List.nil_append, ← hdrop]
    | some ad =>
      have hsrc : ∀ (j : Nat) (v : Value), (segCells l)[j]? = some v → (w.alloc (.cells cur 43)).cell? (ad.add j) = some v := by
        by_cases h : l = []
        · subst h; intro j v hv; simp [segCells] at hv
        · have := ha h; cases this; exact segs_src hl'
      have hrun := run_copy_segs (w.alloc (.cells cur 43)) 3 w.heap.size l.length cap ad cur 43 (segCells l) (heap_alloc_new _ _) (segCells_length l) hsrc (by rw [segCells_length, hcs]; omega) (seg_one l)
      refine ⟨_, hrun, ?_, below_setRow2 hbl (Nat.le_refl _) _⟩
      rw [heap_setRow_at _ _ _ _ _ _ (heap_alloc_new _ _), segCells_length, hdrop]
  obtain ⟨w2, hrun, hrow, hbl2⟩ := hcp
  have q0 : w2.cell? ⟨w.heap.size, l.length * 3, none⟩ = some c0 := by
    rw [cell_of_heap hrow, List.getElem?_toArray, List.getElem?_append_right (by rw [segCells_length]; omega), segCells_length, Nat.sub_self]; rfl
  have q1 : w2.cell? ⟨w.heap.size, l.length * 3 + 1, none⟩ = some c1 := by
    rw [cell_of_heap hrow, List.getElem?_toArray, List.getElem?_append_right (by rw [segCells_length]; omega), segCells_length, Nat.add_sub_cancel_left]; rfl
  have q2 : w2.cell? ⟨w.heap.size, l.length * 3 + 2, none⟩ = some c2 := by
    rw [cell_of_heap hrow, List.getElem?_toArray, List.getElem?_append_right (by rw [segCells_length]; omega), segCells_length, Nat.add_sub_cancel_left]; rfl
  have fz : ∀ j, w2.frozen? ⟨w.heap.size, j, none⟩ = false := fun j => free_of_heap hrow
  have HR : Hid (w2.heap[w.heap.size]? = some (.cells (segCells l ++ [c0, c1, c2]).toArray 43 (0, 0))) := hrow
  clear hrow hl' hl ha h0 hb hdrop hcs
  have hlI : (l.length : Int) + 1 ≤ 8796093022208 := by omega
  go_enter Try.func13, Try.ntmps13
  go_wp2
  go_ret
  refine ⟨rfl, ?_, ((hbl2.setCell (Nat.le_refl _) _).setCell (Nat.le_refl _) _).setCell (Nat.le_refl _) _⟩
  rw [heap_setCell_at _ _ _ _ _ _ _ (heap_setCell_at _ _ _ _ _ _ _ (heap_setCell_at _ _ _ _ _ _ _ HR.out)), set3 _ _ _ _ _ _ _ _ (segCells_length l), segCells_append]; rfl

theorem segs_of_row {w : World} {g : Nat} {l : List Seg} {cs : List Value} (h : w.heap[g]? = some (.cells cs.toArray 43 (0, 0))) (hc : ∃ r, cs = segCells l ++ r) : SegsAt w g 0 l := by
  obtain ⟨r, rfl⟩ := hc
  intro i hi
  obtain ⟨g1, g2, g3⟩ := segCells_get l i hi
  have hl := segCells_length l
  refine ⟨?_, ?_, ?_⟩ <;> rw [cell_of_heap h, List.getElem?_toArray, Nat.zero_add, List.getElem?_append_left (by omega)] <;> assumption

set_option maxRecDepth 100000 in
theorem sameSegment_any (w : World) (s : Seg) :
    Calls Try.prog 44 #[s.v, s.v] w fun e w' => e = .returned (.bool true) ∧ w' = (w.alloc (.cells #[.int .i64 s.addr, .int .i64 s.size, .string s.data] 43)).alloc (.cells #[.int .i64 s.addr, .int .i64 s.size, .string s.data] 43) := by
  obtain ⟨a, z, d⟩ := s
  simp only [Seg.v]
  go_enter Try.func44, Try.ntmps44
  go_wp2
  go_ret
  exact ⟨rfl, rfl⟩

theorem ckL {w : World} {p : Addr} {u : Value} (h : w.cell? p = some u) (o : Obj) : (w.alloc o).cell? p = some u := by
  rw [World.cell?_of_block (w := w) (Below.heap_alloc w o _ (World.block_lt_of_cell? w p h))]; exact h

set_option maxRecDepth 100000 in
set_option maxHeartbeats 4000000 in
theorem sameSegments_any (w : World) (a a2 : Option Addr) (b o b2 o2 cap cap2 : Nat) (l : List Seg) (ha : l ≠ [] → a = some ⟨b, o, none⟩) (ha2 : l ≠ [] → a2 = some ⟨b2, o2, none⟩) (hl : SegsAt w b o l) (hl2 : SegsAt w b2 o2 l) (hb : l ≠ [] → b < w.heap.size) (hb2 : l ≠ [] → b2 < w.heap.size) (hlen : l.length < 4611686018427387904) :
    Calls Try.prog 19 #[.slice a l.length cap, .slice a2 l.length cap2] w fun e w' => e = .returned (.bool true) ∧ Below w.heap.size w w' := by
  go_enter Try.func19, Try.ntmps19
  go_wp2
  go_loopw [5, 6] (fun i _ wr => ∃ k : Nat, k ≤ l.length ∧ i = .int .i64 k ∧ Below w.heap.size w wr) (fun i _ _ => l.length - (intOf i).toNat)
  case atStart => exact ⟨0, by omega, rfl, Below.refl _ _⟩
  case round =>
    obtain ⟨k, hk, rfl, hbel⟩ := hrel
    by_cases hlt : k < l.length
    · have hne : l ≠ [] := by intro e; simp [e] at hlt
      obtain rfl := ha hne
      obtain rfl := ha2 hne
      have hb' := hb hne
      have hb2' := hb2 hne
      obtain ⟨c1, c2, c3⟩ := hl k hlt
      have d1 : wr.cell? ⟨b, o + k * 3, none⟩ = some (.int .i64 l[k].addr) := (hbel.cell (p := ⟨b, o + k * 3, none⟩) hb').trans c1
      have d2 : wr.cell? ⟨b, o + k * 3 + 1, none⟩ = some (.int .i64 l[k].size) := (hbel.cell (p := ⟨b, o + k * 3 + 1, none⟩) hb').trans c2
      have d3 : wr.cell? ⟨b, o + k * 3 + 2, none⟩ = some (.string l[k].data) := (hbel.cell (p := ⟨b, o + k * 3 + 2, none⟩) hb').trans c3
      obtain ⟨c1, c2, c3⟩ := hl2 k hlt
      have d4 : wr.cell? ⟨b2, o2 + k * 3, none⟩ = some (.int .i64 l[k].addr) := (hbel.cell (p := ⟨b2, o2 + k * 3, none⟩) hb2').trans c1
      have d5 : wr.cell? ⟨b2, o2 + k * 3 + 1, none⟩ = some (.int .i64 l[k].size) := (hbel.cell (p := ⟨b2, o2 + k * 3 + 1, none⟩) hb2').trans c2
      have d6 : wr.cell? ⟨b2, o2 + k * 3 + 2, none⟩ = some (.string l[k].data) := (hbel.cell (p := ⟨b2, o2 + k * 3 + 2, none⟩) hb2').trans c3
      clear c1 c2 c3
      have hS := fun wx => sameSegment_any wx l[k]
      generalize l[k] = sg at *
      obtain ⟨x, z, d⟩ := sg
      dsimp only at d1 d2 d3 d4 d5 d6
      simp only [Seg.v] at hS
      have hltI : (k : Int) < (l.length : Int) := by omega
      go_wp2
      go_region_held3 (fun w' => w'.cell? ⟨b, o + k * 3, none⟩ = some (.int .i64 x) ∧ w'.cell? ⟨b, o + k * 3 + 1, none⟩ = some (.int .i64 z) ∧ w'.cell? ⟨b, o + k * 3 + 2, none⟩ = some (.string d) ∧ w'.cell? ⟨b2, o2 + k * 3, none⟩ = some (.int .i64 x) ∧ w'.cell? ⟨b2, o2 + k * 3 + 1, none⟩ = some (.int .i64 z) ∧ w'.cell? ⟨b2, o2 + k * 3 + 2, none⟩ = some (.string d)) ((first | exact ⟨d1, d2, d3, d4, d5, d6⟩ | exact ⟨ckL (ckL d1 _) _, ckL (ckL d2 _) _, ckL (ckL d3 _) _, ckL (ckL d4 _) _, ckL (ckL d5 _) _, ckL (ckL d6 _) _⟩))
        (first
          | (go_at_call 44; refine (hS _).mono ?_; rintro en w' ⟨rfl, rfl⟩))
      all_goals go_wp2
      go_roundw
      case rel => exact ⟨k + 1, by omega, by go_num, ((hbel.alloc hbel.size _).alloc (by have := hbel.size; simp; omega) _).drew⟩
      case measure => simp [intOf]; omega
    · go_wp2
      go_ret
      exact ⟨rfl, hbel⟩
end Go.Proofs.Ytcokahccbjdeaaa
