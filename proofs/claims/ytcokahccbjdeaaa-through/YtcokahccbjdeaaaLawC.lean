import Derived.Test.YtcokahccbjdeaaaLawB
import Derived.Test.YtcokahccbjdeaaaRefD
namespace Go.Proofs.Ytcokahccbjdeaaa
open Go.RowKit

theorem SegsAt.kept {w w' : World} {b o : Nat} {l : List Seg} (h : SegsAt w b o l) (hb : l ≠ [] → b < w.heap.size) (hbl : Below w.heap.size w w') : SegsAt w' b o l := by
  intro i hi
  have hne : l ≠ [] := by intro e; simp [e] at hi
  obtain ⟨c1, c2, c3⟩ := h i hi
  exact ⟨(hbl.cell (p := ⟨b, o + i * 3, none⟩) (hb hne)).trans c1, (hbl.cell (p := ⟨b, o + i * 3 + 1, none⟩) (hb hne)).trans c2, (hbl.cell (p := ⟨b, o + i * 3 + 2, none⟩) (hb hne)).trans c3⟩

set_option maxRecDepth 100000 in
set_option maxHeartbeats 2000000 in
theorem packs_law (w : World) (v e : Int) (a : Option Addr) (b o cap : Nat) (l : List Seg) (ha : l ≠ [] → a = some ⟨b, o, none⟩) (h0 : a = none → cap = 0) (hl : SegsAt w b o l) (hok : ∀ s ∈ l, s.ok) (hb : l ≠ [] → b < w.heap.size) (hlen : l.length * 32 ≤ 140737488351232) :
    Calls Try.prog 4 #[.int .i64 v, .int .i64 e, .slice a l.length cap] w fun en w' => en = .returned (.bool true) ∧ Below w.heap.size w w' := by
  have hLE := lent_any w a b o cap l ha h0 hl hb (by omega)
  have hln : l.length < 4611686018427387904 := by omega
  have hTP : ∀ w1, w1.heap[w.heap.size]? = some (.cells (segCells (l ++ [markSeg])).toArray 43 (0, 0)) → Calls Try.prog 14 #[.int .i64 v, .int .i64 e, .slice (some ⟨w.heap.size, 0, none⟩) l.length (l.length + 1)] w1 fun en w' => en = .returned (.tuple #[.string (mk (packM v e l).1), .int .i64 (packM v e l).2]) ∧ Below w1.heap.size w1 w' := fun w1 hg =>
    twinPack_any w1 v e _ w.heap.size 0 (l.length + 1) l (fun _ => rfl) (segs_of_row hg ⟨segCells [markSeg], segCells_append _ _⟩) hok (fun _ => (Array.getElem?_eq_some_iff.1 hg).1) hln
  have hUN : ∀ w1, w1.heap[w.heap.size]? = some (.cells (segCells (l ++ [markSeg])).toArray 43 (0, 0)) → Below w.heap.size w w1 → Calls Try.prog 15 #[.slice (some ⟨w.heap.size, 0, none⟩) l.length (l.length + 1), .slice a l.length cap] w1 fun e w' => e = .returned (.bool true) ∧ Below w1.heap.size w1 w' := fun w1 hg hbl =>
    unhurt_any w1 w.heap.size a b o cap l ha (hl.kept hb hbl) (fun h => Nat.lt_of_lt_of_le (hb h) hbl.size) hln hg
  have hRP : ∀ w1, Below w.heap.size w w1 → Calls Try.prog 16 #[.int .i64 v, .int .i64 e, .slice a l.length cap] w1 fun en w' => en = .returned (.tuple #[.string (mk (packM v e l).1), .int .i64 (packM v e l).2]) ∧ Below w1.heap.size w1 w' := fun w1 hbl =>
    refPack_any w1 v e a b o cap l ha (hl.kept hb hbl) hok (fun h => Nat.lt_of_lt_of_le (hb h) hbl.size) hln
  clear hl hok ha h0 hb hln hlen
  generalize mk (packM v e l).1 = r1 at *
  generalize (packM v e l).2 = r2 at *
  go_enter Try.func4, Try.ntmps4
  go_wp2_with (first
    | (go_at_call 13; refine hLE.mono ?_; rintro en w1 ⟨rfl, hg1, hb1⟩)
    | (go_at_call 14; refine (hTP w1 hg1).mono ?_; rintro en w2 ⟨rfl, hb2⟩; have hg2 := (hb2.block _ (Array.getElem?_eq_some_iff.1 hg1).1).trans hg1; have hb12 := hb1.trans (hb2.mono hb1.size))
    | (go_at_call 15; refine (hUN w2 hg2 hb12).mono ?_; rintro en w3 ⟨rfl, hb3⟩; have hb13 := hb12.trans (hb3.mono hb12.size))
    | (go_at_call 16; refine (hRP w3 hb13).mono ?_; rintro en w4 ⟨rfl, hb4⟩))
  go_ret
  exact ⟨rfl, hb13.trans (hb4.mono hb13.size)⟩
end Go.Proofs.Ytcokahccbjdeaaa
