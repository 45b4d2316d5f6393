import Derived.Test.YtfapgfpidhbhaabDoorImgs
import Derived.Deep.RegionHeld3
namespace Go.Proofs.YtfapgfpidhbhaabDoor
open Go.RowKit

theorem memV_size {m : Mem} (h : m.wf) : (memV m).size = 256 := by
  obtain ⟨h1, h2⟩ := h
  simp [memV, h1, h2]
theorem memV_one (m : Mem) : (memV m).all (·.oneCell') = true := by
  rw [Array.all_eq_true_iff_forall_mem]
  intro x hx
  simp only [memV, List.mem_toArray, List.mem_append, List.mem_map] at hx
  rcases hx with ⟨y, _, rfl⟩ | ⟨y, _, rfl⟩ <;> rfl
/-- all segments laid, whether or not they clash; and: does none? -/
def drawStep (p : Mem × Bool) (s : Seg) : Mem × Bool := (p.1.putS s, p.2 && p.1.freeS s)
def drawAll (l : List Seg) : Mem × Bool := l.foldl drawStep (mem0, true)
theorem drawAll_snoc (l : List Seg) (k : Nat) (h : k < l.length) : drawAll (l.take (k + 1)) = drawStep (drawAll (l.take k)) l[k] := by
  unfold drawAll
  rw [List.take_succ_eq_append_getElem h, List.foldl_append]; rfl
theorem drawStep_wf {p : Mem × Bool} (h : p.1.wf) (s : Seg) : (drawStep p s).1.wf := Mem.putN_wf h _ _ _
theorem drawAll_wf (l : List Seg) : (drawAll l).1.wf := by
  unfold drawAll
  suffices ∀ p : Mem × Bool, p.1.wf → (l.foldl drawStep p).1.wf from this _ mem0_wf
  induction l with
  | nil => intro p h; exact h
  | cons s r ih => intro p h; exact ih _ (drawStep_wf h s)

theorem results_cell_tmp {P : Program} {fn : Func} {p t : Tmp} {ty : TypeId} (h : fn.results = #[.cell p ty, .tmp t]) (tmps : Array Value) (w : World) (g : Nat) (tt : TypeId) (cs : Array Value) (fr : Nat × Nat) (d : TypeDesc)
    (hp : tmps.getD p undef = .pointer (some ⟨g, 0, none⟩)) (hg : w.heap[g]? = some (.cells cs tt fr))
    (hu : P.underlying ty = some d) (hd : (match d with | .struct _ | .array _ _ => true | _ => false) = true) (hi : (P.info? ty).map (·.size) = some cs.size) :
    (results fn tmps).run P w = .ok (.tuple #[.agg cs, tmps.getD t undef]) w := by
  have hp' : tmps[p]?.getD undef = .pointer (some ⟨g, 0, none⟩) := by simpa using hp
  simp [results, h, hp', asAddr, run_loadVar_row w g tt ty cs fr d hg hu hd hi]
theorem heap_setRow_at (w : World) (g : Nat) (old cs : Array Value) (t : TypeId) (fr : Nat × Nat) (h : w.heap[g]? = some (.cells old t fr)) : (w.setRow g cs).heap[g]? = some (.cells cs t fr) := by
  simp [World.setRow, Array.getElem?_modify, h]
theorem below_setRow2 {B : Nat} {a w : World} (h : Below B a w) {g : Nat} (hp : B ≤ g) (cs : Array Value) : Below B a (w.setRow g cs) :=
  h.trans ⟨rfl, rfl, rfl, by simp, fun k hk => by simp only [World.setRow, Array.getElem?_modify]; rw [if_neg (by omega)]⟩

end Go.Proofs.YtfapgfpidhbhaabDoor

namespace Go.Proofs.YtfapgfpidhbhaabDoor
open Go.RowKit

theorem endFrom_cov (m : Mem) (a j : Nat) (h1 : a ≤ j) (h2 : j < endFrom m a) : m.c j = true := by
  refine up_ind (p := fun a => a ≤ j → j < endFrom m a → m.c j = true) (fun a ih h1 h2 => ?_) a h1 h2
  by_cases h : a < 128 ∧ m.c a = true
  · rw [endFrom_go h.1 h.2] at h2
    by_cases e : a = j
    · subst e; exact h.2
    · exact ih h.1 (by omega) h2
  · rw [endFrom_stop h] at h2; omega
theorem endFrom_end (m : Mem) (a : Nat) : ¬ (endFrom m a < 128 ∧ m.c (endFrom m a) = true) := by
  refine up_ind (p := fun a => ¬ (endFrom m a < 128 ∧ m.c (endFrom m a) = true)) (fun a ih => ?_) a
  show ¬ (endFrom m a < 128 ∧ m.c (endFrom m a) = true)
  by_cases h : a < 128 ∧ m.c a = true
  · rw [endFrom_go h.1 h.2]; exact ih h.1
  · rw [endFrom_stop h]; exact h
theorem runsTo_stretch (m : Mem) (a n : Nat) (h : ∀ j, a < j → j < a + 1 + n → m.c (j - 1) = true) : runsTo m (a + 1 + n) = runsTo m (a + 1) := by
  induction n with
  | zero => rfl
  | succ n ih =>
    rw [show a + 1 + (n + 1) = (a + 1 + n) + 1 by omega, runsTo_succ, ih (fun j h1 h2 => h j h1 (by omega)), if_neg, List.append_nil]
    have hc := h (a + 1 + n) (by omega) (by omega)
    simp only [isStart, hc, Bool.and_true]
    rw [decide_eq_true (by omega)]; simp
theorem runsTo_run (m : Mem) (a : Nat) (h : isStart m a = true) (ha : a < 128) : runsTo m (endFrom m a) = runsTo m a ++ [runOf m a] := by
  have hc : m.c a = true := by simp only [isStart, Bool.and_eq_true] at h; exact h.1
  have h1 := endFrom_ge m (a + 1)
  rw [← endFrom_go ha hc] at h1
  obtain ⟨n, hn⟩ : ∃ n, endFrom m a = a + 1 + n := ⟨endFrom m a - (a + 1), by omega⟩
  rw [hn, runsTo_stretch m a n, runsTo_succ, if_pos h]
  intro j hj1 hj2
  exact endFrom_cov m a (j - 1) (by omega) (by omega)

theorem conv_one (w : World) (x : UInt8) :
    (convert 57 9 (.slice (some ⟨w.heap.size, 0, none⟩) 1 1)).run Tryd.prog (w.alloc (.cells #[.int .u8 (x.toNat : Int)] 5)) = .ok (.string (mk [x])) (w.alloc (.cells #[.int .u8 (x.toNat : Int)] 5)) :=
  conv_cells _ _ 1 _ [x] _ (heap_alloc_new w _) rfl

theorem take_one (l : List UInt8) (a n : Nat) (h : a + n < l.length) : (l.drop a).take (n + 1) = (l.drop a).take n ++ [l.getD (a + n) 0] := by
  rw [List.take_succ_eq_append_getElem (by simp; omega), getD_get l (a + n) h]; simp

theorem cells_new1 (w : World) (cs : Array Value) (t : TypeId) (news : List Value) (h : cs.toList = news) :
    ∀ (j : Nat) (u : Value), news[j]? = some u → (w.alloc (.cells cs t)).cell? (Addr.add ⟨w.heap.size, 0, none⟩ j) = some u := by
  intro j u hj
  have ha : (⟨w.heap.size, 0, none⟩ : Addr).add j = ⟨w.heap.size, j, none⟩ := by cases j <;> simp [Addr.add]
  rw [ha, cell_of_heap (heap_alloc_new w (.cells cs t)), ← hj, ← h, Array.getElem?_toList]

end Go.Proofs.YtfapgfpidhbhaabDoor

namespace Go.Proofs.YtfapgfpidhbhaabDoor
open Go.RowKit

theorem conv_oneI (w : World) (n : Int) :
    (convert 57 9 (.slice (some ⟨w.heap.size, 0, none⟩) 1 1)).run Tryd.prog (w.alloc (.cells #[.int .u8 (n % 256)] 5)) = .ok (.string (mk [byteOf n])) (w.alloc (.cells #[.int .u8 (n % 256)] 5)) :=
  conv_cells _ _ 1 _ [byteOf n] _ (heap_alloc_new w _) (by rw [byteOf_val]; rfl)

end Go.Proofs.YtfapgfpidhbhaabDoor

namespace Go.Proofs.YtfapgfpidhbhaabDoor
open Go.RowKit

theorem run_copy_segs (w : World) (ty : TypeId) (g n sCap : Nat) (a : Addr) (cur : Array Value) (t : TypeId) (cs : List Value)
    (hg : w.heap[g]? = some (.cells cur t (0, 0))) (hn : cs.length = n * 3)
    (hsrc : ∀ j v, cs[j]? = some v → w.cell? (a.add j) = some v) (hfit : cs.length ≤ cur.size) (h1 : ∀ v ∈ cs, v.oneCell' = true) :
    (Builtin.copy_ #[78, 78] ty #[.slice (some ⟨g, 0, none⟩) (n + 1) (n + 1), .slice (some a) n sCap]).run Tryd.prog w =
      .ok (goInt n) (w.setRow g (cs ++ cur.toList.drop cs.length).toArray) := by
  have hl := run_loadCells_list (P := Tryd.prog) w a cs hsrc
  have hst := run_storeCells_at Tryd.prog g 0 t cs 0 cur w hg (by simpa using hfit) h1
  obtain ⟨i, hi, h0, h1, h2⟩ := info_parts Tryd.info77
  have hmin : Nat.min n (n + 1) = n := Nat.min_eq_left (by omega)
  rw [hn] at hl
  simp [Builtin.copy_, run_underlying Tryd.underlying78, Builtin.lenOf, Builtin.firstCells, sizeOf, typeInfo, hi, h1, hmin, hl, hst]

def markSeg : Seg := ⟨-7, -7, ⟨#[109, 97, 114, 107]⟩⟩

theorem seg_one (l : List Seg) : ∀ v ∈ segCells l, v.oneCell' = true := by
  intro v hv
  unfold segCells at hv
  obtain ⟨s, _, h⟩ := List.mem_flatMap.1 hv
  simp at h
  rcases h with rfl | rfl | rfl <;> rfl

theorem segs_src {w : World} {b o : Nat} {l : List Seg} (h : SegsAt w b o l) : ∀ (j : Nat) (v : Value), (segCells l)[j]? = some v → w.cell? (Addr.add ⟨b, o, none⟩ j) = some v := by
  intro j v hv
  have hj : j < l.length * 3 := by
    have := (List.getElem?_eq_some_iff.1 hv).1
    rwa [segCells_length] at this
  have ha : (⟨b, o, none⟩ : Addr).add j = ⟨b, o + j, none⟩ := by cases j <;> simp [Addr.add]
  rw [ha]
  have hi : j / 3 < l.length := by omega
  obtain ⟨c1, c2, c3⟩ := h (j / 3) hi
  obtain ⟨g1, g2, g3⟩ := segCells_get l (j / 3) hi
  have hm : j % 3 = 0 ∨ j % 3 = 1 ∨ j % 3 = 2 := by omega
  rcases hm with hm | hm | hm
  · rw [show o + j = o + j / 3 * 3 by omega, c1, ← g1, ← hv, show j / 3 * 3 = j by omega]
  · rw [show o + j = o + j / 3 * 3 + 1 by omega, c2, ← g2, ← hv, show j / 3 * 3 + 1 = j by omega]
  · rw [show o + j = o + j / 3 * 3 + 2 by omega, c3, ← g3, ← hv, show j / 3 * 3 + 2 = j by omega]

theorem make_segs (w : World) (n : Nat) (h : n * 32 ≤ 281474976710656) :
    ∃ cur : Array Value, cur.size = n * 3 ∧ (Instr.makeSlice 78 (.int .i64 (n : Int)) (.int .i64 (n : Int))).run Tryd.prog w = .ok (.slice (some ⟨w.heap.size, 0, none⟩) n n) (w.alloc (.cells cur 77)) := by
  obtain ⟨i, hi, h0, h1, h2⟩ := info_parts Tryd.info77
  have := run_make (P := Tryd.prog) w 78 77 i _ Tryd.underlying78 hi h0 .i64 .i64 n n (by omega) (by omega) (by rw [h2]; omega) (by omega)
  rw [h1, Int.toNat_natCast] at this
  exact ⟨_, size_madeCells _ _, this⟩

theorem set3 (A : List Value) (n : Nat) (c0 c1 c2 x y z : Value) (h : A.length = n * 3) :
    (((A ++ [c0, c1, c2]).toArray.setIfInBounds (n * 3) x).setIfInBounds (n * 3 + 1) y).setIfInBounds (n * 3 + 2) z = (A ++ [x, y, z]).toArray := by
  simp only [List.setIfInBounds_toArray]
  rw [List.set_append_right _ _ (by omega), List.set_append_right _ _ (by omega), List.set_append_right _ _ (by omega), h]
  simp [Nat.add_sub_cancel_left]
theorem three (l : List Value) (h : l.length = 3) : ∃ a b c, l = [a, b, c] := by
  match l, h with
  | [a, b, c], _ => exact ⟨a, b, c, rfl⟩

theorem segs_of_row {w : World} {g : Nat} {l : List Seg} {cs : List Value} (h : w.heap[g]? = some (.cells cs.toArray 77 (0, 0))) (hc : ∃ r, cs = segCells l ++ r) : SegsAt w g 0 l := by
  obtain ⟨r, rfl⟩ := hc
  intro i hi
  obtain ⟨g1, g2, g3⟩ := segCells_get l i hi
  have hl := segCells_length l
  refine ⟨?_, ?_, ?_⟩ <;> rw [cell_of_heap h, List.getElem?_toArray, Nat.zero_add, List.getElem?_append_left (by omega)] <;> assumption

theorem ckL {w : World} {p : Addr} {u : Value} (h : w.cell? p = some u) (o : Obj) : (w.alloc o).cell? p = some u := by
  rw [World.cell?_of_block (w := w) (Below.heap_alloc w o _ (World.block_lt_of_cell? w p h))]; exact h

end Go.Proofs.YtfapgfpidhbhaabDoor

namespace Go.Proofs.YtfapgfpidhbhaabDoor
open Go.RowKit

end Go.Proofs.YtfapgfpidhbhaabDoor

namespace Go.Proofs.YtfapgfpidhbhaabDoor
open Go.RowKit

theorem lay_draw_aux (l : List Seg) (hf : ∀ s ∈ l, s.fits = true) : ∀ (m : Mem) (c : Bool), l.foldlM Mem.step m = (if (l.foldl drawStep (m, true)).2 then some (l.foldl drawStep (m, true)).1 else none) ∧ (l.foldl drawStep (m, c)).1 = (l.foldl drawStep (m, true)).1 ∧ (l.foldl drawStep (m, false)).2 = false := by
  induction l with
  | nil => intro m c; exact ⟨rfl, rfl, rfl⟩
  | cons s r ih =>
    intro m c
    have hs := hf s (by simp)
    have ih' := ih (fun x hx => hf x (by simp [hx]))
    have e1 : drawStep (m, true) s = (m.putS s, m.freeS s) := by simp [drawStep]
    have e2 : drawStep (m, c) s = (m.putS s, c && m.freeS s) := rfl
    have e3 : drawStep (m, false) s = (m.putS s, false) := by simp [drawStep]
    simp only [List.foldl_cons, List.foldlM_cons, e1, e2, e3]
    refine ⟨?_, ?_, (ih' _ false).2.2⟩
    · cases hfr : m.freeS s
      · have hst : m.step s = none := by simp [Mem.step, hfr]
        rw [hst, (ih' _ false).2.2]; rfl
      · have hst : m.step s = some (m.putS s) := by simp [Mem.step, hfr, hs]
        rw [hst]; exact (ih' _ true).1
    · rw [(ih' (m.putS s) (c && m.freeS s)).2.1, (ih' (m.putS s) (m.freeS s)).2.1]
theorem lay_draw (l : List Seg) (hf : ∀ s ∈ l, s.fits = true) : layAll l = if (drawAll l).2 then some (drawAll l).1 else none := (lay_draw_aux l hf mem0 true).1

theorem ck {w : World} {p : Addr} {u : Value} (h : w.cell? p = some u) (o : Obj) : (w.alloc o).cell? p = some u := by
  rw [World.cell?_of_block (w := w) (Below.heap_alloc w o _ (World.block_lt_of_cell? w p h))]; exact h
theorem ck0 {w : World} {p q r : Addr} {u v x : Value} (h1 : w.cell? p = some u) (h2 : w.cell? q = some v) (h3 : w.cell? r = some x) : w.drew.cell? p = some u ∧ w.drew.cell? q = some v ∧ w.drew.cell? r = some x := ⟨h1, h2, h3⟩
theorem ck1 {w : World} {p q r : Addr} {u v x : Value} (h1 : w.cell? p = some u) (h2 : w.cell? q = some v) (h3 : w.cell? r = some x) (a : Obj) : (w.alloc a).drew.cell? p = some u ∧ (w.alloc a).drew.cell? q = some v ∧ (w.alloc a).drew.cell? r = some x := ⟨ck h1 a, ck h2 a, ck h3 a⟩
theorem ck2 {w : World} {p q r : Addr} {u v x : Value} (h1 : w.cell? p = some u) (h2 : w.cell? q = some v) (h3 : w.cell? r = some x) (a b : Obj) : ((w.alloc a).alloc b).drew.cell? p = some u ∧ ((w.alloc a).alloc b).drew.cell? q = some v ∧ ((w.alloc a).alloc b).drew.cell? r = some x := ck1 (ck h1 a) (ck h2 a) (ck h3 a) b
theorem ck3 {w : World} {p q r : Addr} {u v x : Value} (h1 : w.cell? p = some u) (h2 : w.cell? q = some v) (h3 : w.cell? r = some x) (a b c : Obj) : (((w.alloc a).alloc b).alloc c).drew.cell? p = some u ∧ (((w.alloc a).alloc b).alloc c).drew.cell? q = some v ∧ (((w.alloc a).alloc b).alloc c).drew.cell? r = some x := ck2 (ck h1 a) (ck h2 a) (ck h3 a) b c

end Go.Proofs.YtfapgfpidhbhaabDoor

namespace Go.Proofs.YtfapgfpidhbhaabDoor
open Go.RowKit

theorem SegsAt.kept {w w' : World} {b o : Nat} {l : List Seg} (h : SegsAt w b o l) (hb : l ≠ [] → b < w.heap.size) (hbl : Below w.heap.size w w') : SegsAt w' b o l := by
  intro i hi
  have hne : l ≠ [] := by intro e; simp [e] at hi
  obtain ⟨c1, c2, c3⟩ := h i hi
  exact ⟨(hbl.cell (p := ⟨b, o + i * 3, none⟩) (hb hne)).trans c1, (hbl.cell (p := ⟨b, o + i * 3 + 1, none⟩) (hb hne)).trans c2, (hbl.cell (p := ⟨b, o + i * 3 + 2, none⟩) (hb hne)).trans c3⟩

end Go.Proofs.YtfapgfpidhbhaabDoor
