import Derived.Test.YtcokahccbjdeaaaLawA
namespace Go.Proofs.Ytcokahccbjdeaaa
open Go.RowKit

set_option maxRecDepth 100000 in
set_option maxHeartbeats 2000000 in
theorem unhurt_any (w : World) (g : Nat) (a : Option Addr) (b o cap : Nat) (l : List Seg) (ha : l ≠ [] → a = some ⟨b, o, none⟩) (hl : SegsAt w b o l) (hb : l ≠ [] → b < w.heap.size) (hlen : l.length < 4611686018427387904)
    (hg : w.heap[g]? = some (.cells (segCells (l ++ [markSeg])).toArray 43 (0, 0))) :
    Calls Try.prog 15 #[.slice (some ⟨g, 0, none⟩) l.length (l.length + 1), .slice a l.length cap] w fun e w' => e = .returned (.bool true) ∧ Below w.heap.size w w' := by
  have hgl : g < w.heap.size := (Array.getElem?_eq_some_iff.1 hg).1
  have hs1 : SegsAt w g 0 l := segs_of_row hg ⟨segCells [markSeg], segCells_append _ _⟩
  have hs2 : SegsAt w g 0 (l ++ [markSeg]) := segs_of_row hg ⟨[], by simp⟩
  have hSS := sameSegments_any w (some ⟨g, 0, none⟩) a g 0 b o (l.length + 1) cap l (fun _ => rfl) ha hs1 hl (fun _ => hgl) hb hlen
  obtain ⟨m1, m2, m3⟩ := hs2 l.length (by simp)
  simp only [List.getElem_concat_length, markSeg, Nat.zero_add] at m1 m2 m3
  have hSM := fun wx => sameSegment_any wx markSeg
  simp only [Seg.v, markSeg] at hSM
  have e1 : Hid (∀ wx, Below w.heap.size w wx → wx.cell? ⟨g, l.length * 3, none⟩ = some (.int .i64 (-7))) := fun wx h => (h.cell (p := ⟨g, l.length * 3, none⟩) hgl).trans m1
  have e2 : Hid (∀ wx, Below w.heap.size w wx → wx.cell? ⟨g, l.length * 3 + 1, none⟩ = some (.int .i64 (-7))) := fun wx h => (h.cell (p := ⟨g, l.length * 3 + 1, none⟩) hgl).trans m2
  have e3 : Hid (∀ wx, Below w.heap.size w wx → wx.cell? ⟨g, l.length * 3 + 2, none⟩ = some (.string ⟨#[109, 97, 114, 107]⟩)) := fun wx h => (h.cell (p := ⟨g, l.length * 3 + 2, none⟩) hgl).trans m3
  clear m1 m2 m3 hs1 hs2 hl ha hb hg
  have hlI : (l.length : Int) < 4611686018427387904 := by omega
  have hne1 : ¬ (l.length : Int) + 1 ≤ l.length := by omega
  go_enter Try.func15, Try.ntmps15
  go_wp2_with (first
    | (go_at_call 19; refine hSS.mono ?_; rintro en w2 ⟨rfl, hb2⟩; have f1 := e1.out w2 hb2; have f2 := e2.out w2 hb2; have f3 := e3.out w2 hb2; clear e1 e2 e3)
    | (go_at_call 44; refine (hSM _).mono ?_; rintro en w3 ⟨rfl, rfl⟩))
  go_ret
  exact ⟨rfl, (hb2.alloc hb2.size _).alloc (by have := hb2.size; simp; omega) _⟩
end Go.Proofs.Ytcokahccbjdeaaa
