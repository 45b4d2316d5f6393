import Derived.Test.YtcokahccbjdeaaaDoorStB
namespace Go.Proofs.YtcokahccbjdeaaaDoor
open Go.RowKit

theorem byteOf_fit (n : Int) (h0 : 0 ≤ n) (h1 : n ≤ 255) : Value.int .u8 n = Value.int .u8 ((byteOf n).toNat : Int) := by
  rw [← byteOf_val]; congr 1; omega
set_option maxRecDepth 100000 in
set_option maxHeartbeats 2000000 in
theorem encode_page (w : World) (h : HeldS) (h1 : h.good.size ≤ 1048576) (h2 : h.trial.size ≤ 1048576) (h3 : h.got.size ≤ 1048576) (h4 : 0 ≤ h.floor) (h5 : h.floor ≤ 65535) (h6 : 0 ≤ h.tries) (h7 : h.tries ≤ 255) (h8 : 0 ≤ h.size) (h9 : h.size ≤ 255) :
    Calls Tryd.prog 83 #[h.v] w fun e w' => e = .returned (.string (mk (encM h))) ∧ Below w.heap.size w w' := by
  obtain ⟨hd, hhd⟩ : ∃ hd, hd = mk [255, byteOf (h.floor / 256), byteOf (h.floor % 256), byteOf h.good.size, byteOf h.tries, byteOf h.size, byteOf ((h.trial.size : Int) + h.got.size)] := ⟨_, rfl⟩
  have HE : Hid (mk (encM h) = hd ++ h.good ++ (h.trial ++ h.got)) := by
    rw [hhd, Hid]
    have e : mk (encM h) = mk [255, byteOf (h.floor / 256), byteOf (h.floor % 256), byteOf h.good.size, byteOf h.tries, byteOf h.size, byteOf ((h.trial.size : Int) + h.got.size)] ++ mk h.good.data.toList ++ (mk h.trial.data.toList ++ mk h.got.data.toList) := by
      rw [mk_append, mk_append, mk_append]
      congr 1
    rw [e, mk_list, mk_list, mk_list]
  have hds : hd.size = 7 := by rw [hhd, mk_size]; rfl
  have hcv : ∀ o : Obj, (convert 55 9 (.slice (some ⟨w.heap.size + 1, 0, none⟩) 7 7)).run Tryd.prog ((w.alloc o).alloc (.cells #[.int .u8 255, .int .u8 (h.floor / 256), .int .u8 (h.floor % 256), .int .u8 ((h.good.size : Int) % 256), .int .u8 h.tries, .int .u8 h.size, .int .u8 (((h.trial.size : Int) + h.got.size) % 256)] 5)) = .ok (.string hd) ((w.alloc o).alloc (.cells #[.int .u8 255, .int .u8 (h.floor / 256), .int .u8 (h.floor % 256), .int .u8 ((h.good.size : Int) % 256), .int .u8 h.tries, .int .u8 h.size, .int .u8 (((h.trial.size : Int) + h.got.size) % 256)] 5)) := by
    intro o
    rw [hhd]
    refine conv_cells _ _ 7 _ [255, byteOf (h.floor / 256), byteOf (h.floor % 256), byteOf h.good.size, byteOf h.tries, byteOf h.size, byteOf ((h.trial.size : Int) + h.got.size)] _ (heap_alloc2_new w _ _) ?_
    rw [byteOf_fit (h.floor % 256) (by omega) (by omega), byteOf_val h.good.size, byteOf_val (h.trial.size + h.got.size), byteOf_fit (h.floor / 256) (by omega) (by omega), byteOf_fit h.tries (by omega) (by omega), byteOf_fit h.size (by omega) (by omega)]
    rfl
  clear hhd
  obtain ⟨gd, fl, tr, ts, sz, gt⟩ := h
  simp only [HeldS.v] at *
  generalize mk (encM ⟨gd, fl, tr, ts, sz, gt⟩) = R at *
  go_enter Tryd.func83, Tryd.ntmps83
  go_wp2
  go_ret
  exact ⟨by rw [HE.out]; rfl, ((Below.refl _ _).alloc (Nat.le_refl _) _).alloc (by simp) _⟩
structure Dv (w : World) (b g : Nat) (c : ChipS) : Prop where
  chip : ChipAt w b g c
  turns : TurnsAt w
  b0 : b ≠ 0
  g0 : g ≠ 0
theorem ChipAt.below {w w' : World} {b g : Nat} {c : ChipS} (h : ChipAt w b g c) (hb : Below w.heap.size w w') : ChipAt w' b g c :=
  ⟨(hb.block _ (Array.getElem?_eq_some_iff.1 h.hb).1).trans h.hb, (hb.block _ (Array.getElem?_eq_some_iff.1 h.hg).1).trans h.hg, h.len, h.ops0, h.left1, h.left0, h.tn⟩
theorem Dv.below {w w' : World} {b g : Nat} {c : ChipS} (h : Dv w b g c) (hb : Below w.heap.size w w') : Dv w' b g c := ⟨h.chip.below hb, h.turns.below hb, h.b0, h.g0⟩
theorem Dv.only {w w' : World} {b g : Nat} {c c' : ChipS} (h : Dv w b g c) (hc : ChipAt w' b g c') (ho : Only (fun k => k = b ∨ k = g) w w') : Dv w' b g c' :=
  ⟨hc, h.turns.only ho (fun x => by rcases x with x | x; exact h.b0 x.symm; exact h.g0 x.symm), h.b0, h.g0⟩

def pageV (s t : Nat) (h : HeldS) : Value := .agg #[.int .i64 s, .int .i64 t, .string h.good, .int .i64 h.floor, .string h.trial, .int .i64 h.tries, .int .i64 h.size, .string h.got]
def pageC (s t : Nat) (h : HeldS) : Array Value := #[.int .i64 s, .int .i64 t, .string h.good, .int .i64 h.floor, .string h.trial, .int .i64 h.tries, .int .i64 h.size, .string h.got]
def noHeld : HeldS := ⟨⟨#[]⟩, 0, ⟨#[]⟩, 0, 0, ⟨#[]⟩⟩
def pageOut (s : Nat) : Option (Nat × HeldS) → Value
  | none => .tuple #[pageV 0 0 noHeld, .bool false]
  | some (t, h) => .tuple #[pageV s t h, .bool true]
theorem page_cells {w : World} {g s t : Nat} {h : HeldS} (H : w.heap[g]? = some (.cells (pageC s t h) 110 (0, 0))) :
    w.cell? ⟨g, 0, none⟩ = some (.int .i64 s) ∧ w.cell? ⟨g, 1, none⟩ = some (.int .i64 t) ∧ w.cell? ⟨g, 2, none⟩ = some (.string h.good) ∧ w.cell? ⟨g, 3, none⟩ = some (.int .i64 h.floor) ∧ w.cell? ⟨g, 4, none⟩ = some (.string h.trial) ∧
    w.cell? ⟨g, 5, none⟩ = some (.int .i64 h.tries) ∧ w.cell? ⟨g, 6, none⟩ = some (.int .i64 h.size) ∧ w.cell? ⟨g, 7, none⟩ = some (.string h.got) ∧ (∀ o, w.frozen? ⟨g, o, none⟩ = false) := by
  refine ⟨?_, ?_, ?_, ?_, ?_, ?_, ?_, ?_, fun o => free_of_heap H⟩ <;> (rw [cell_of_heap H]; rfl)

theorem alloc_heap {w : World} {g : Nat} {x : Obj} (H : w.heap[g]? = some x) (o : Obj) : (w.alloc o).heap[g]? = some x :=
  (Below.heap_alloc _ _ _ (Array.getElem?_eq_some_iff.1 H).1).trans H
theorem page_cells_alloc {w : World} {g s t : Nat} {h : HeldS} (H : w.heap[g]? = some (.cells (pageC s t h) 110 (0, 0))) :
    (∀ x, (w.alloc x).cell? ⟨g, 0, none⟩ = some (.int .i64 s)) ∧ (∀ x, (w.alloc x).cell? ⟨g, 1, none⟩ = some (.int .i64 t)) ∧ (∀ x, (w.alloc x).cell? ⟨g, 2, none⟩ = some (.string h.good)) ∧ (∀ x, (w.alloc x).cell? ⟨g, 3, none⟩ = some (.int .i64 h.floor)) ∧ (∀ x, (w.alloc x).cell? ⟨g, 4, none⟩ = some (.string h.trial)) ∧
    (∀ x, (w.alloc x).cell? ⟨g, 5, none⟩ = some (.int .i64 h.tries)) ∧ (∀ x, (w.alloc x).cell? ⟨g, 6, none⟩ = some (.int .i64 h.size)) ∧ (∀ x, (w.alloc x).cell? ⟨g, 7, none⟩ = some (.string h.got)) ∧ (∀ x o, (w.alloc x).frozen? ⟨g, o, none⟩ = false) := by
  refine ⟨?_, ?_, ?_, ?_, ?_, ?_, ?_, ?_, fun x o => free_of_heap (alloc_heap H x)⟩ <;> (intro x; rw [cell_of_heap (alloc_heap H x)]; rfl)
theorem held_cells_alloc {w : World} {g : Nat} {h : HeldS} (H : w.heap[g]? = some (.cells h.cs 72 (0, 0))) :
    (∀ x, (w.alloc x).cell? ⟨g, 0, none⟩ = some (.string h.good)) ∧ (∀ x, (w.alloc x).cell? ⟨g, 1, none⟩ = some (.int .i64 h.floor)) ∧ (∀ x, (w.alloc x).cell? ⟨g, 2, none⟩ = some (.string h.trial)) ∧
    (∀ x, (w.alloc x).cell? ⟨g, 3, none⟩ = some (.int .i64 h.tries)) ∧ (∀ x, (w.alloc x).cell? ⟨g, 4, none⟩ = some (.int .i64 h.size)) ∧ (∀ x, (w.alloc x).cell? ⟨g, 5, none⟩ = some (.string h.got)) ∧ (∀ x o, (w.alloc x).frozen? ⟨g, o, none⟩ = false) := by
  refine ⟨?_, ?_, ?_, ?_, ?_, ?_, fun x o => free_of_heap (alloc_heap H x)⟩ <;> (intro x; rw [cell_of_heap (alloc_heap H x)]; rfl)
theorem page_cells_ad {w : World} {g s t : Nat} {h : HeldS} (H : w.heap[g]? = some (.cells (pageC s t h) 110 (0, 0))) :
    (∀ x, (w.alloc x).drew.cell? ⟨g, 0, none⟩ = some (.int .i64 s)) ∧ (∀ x, (w.alloc x).drew.cell? ⟨g, 1, none⟩ = some (.int .i64 t)) ∧ (∀ x, (w.alloc x).drew.cell? ⟨g, 2, none⟩ = some (.string h.good)) ∧ (∀ x, (w.alloc x).drew.cell? ⟨g, 3, none⟩ = some (.int .i64 h.floor)) ∧ (∀ x, (w.alloc x).drew.cell? ⟨g, 4, none⟩ = some (.string h.trial)) ∧
    (∀ x, (w.alloc x).drew.cell? ⟨g, 5, none⟩ = some (.int .i64 h.tries)) ∧ (∀ x, (w.alloc x).drew.cell? ⟨g, 6, none⟩ = some (.int .i64 h.size)) ∧ (∀ x, (w.alloc x).drew.cell? ⟨g, 7, none⟩ = some (.string h.got)) ∧ (∀ x o, (w.alloc x).drew.frozen? ⟨g, o, none⟩ = false) := page_cells_alloc H
theorem held_cells_ad {w : World} {g : Nat} {h : HeldS} (H : w.heap[g]? = some (.cells h.cs 72 (0, 0))) :
    (∀ x, (w.alloc x).drew.cell? ⟨g, 0, none⟩ = some (.string h.good)) ∧ (∀ x, (w.alloc x).drew.cell? ⟨g, 1, none⟩ = some (.int .i64 h.floor)) ∧ (∀ x, (w.alloc x).drew.cell? ⟨g, 2, none⟩ = some (.string h.trial)) ∧
    (∀ x, (w.alloc x).drew.cell? ⟨g, 3, none⟩ = some (.int .i64 h.tries)) ∧ (∀ x, (w.alloc x).drew.cell? ⟨g, 4, none⟩ = some (.int .i64 h.size)) ∧ (∀ x, (w.alloc x).drew.cell? ⟨g, 5, none⟩ = some (.string h.got)) ∧ (∀ x o, (w.alloc x).drew.frozen? ⟨g, o, none⟩ = false) := held_cells_alloc H
theorem read_sector (c : ChipS) (s : Nat) (hs : s < 4) : c.read ((s : Int) * 256) 256 = mk (sectorOf c.cells s) := by
  unfold ChipS.read
  rw [if_neg (by omega)]
  rw [show ((s : Int) * 256).toNat = s * 256 by omega]
  rfl

end Go.Proofs.YtcokahccbjdeaaaDoor
