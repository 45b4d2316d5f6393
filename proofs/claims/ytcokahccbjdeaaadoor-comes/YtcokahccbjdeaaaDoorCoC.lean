import Derived.Test.YtcokahccbjdeaaaDoorCoB
namespace Go.Proofs.YtcokahccbjdeaaaDoor
open Go.RowKit

/-- What the law itself keeps of a ship: the good ones, the offer, the boots seen, what it thinks runs, the floor seen. -/
structure Log where
  gs : Value
  of : ByteArray
  bt : Int
  rn : Int
  fl : Int
def shipC (b : Nat) (d : Value) (L : Log) : Array Value := #[.pointer (some ⟨b, 0, none⟩), d, L.gs, .string L.of, .int .i64 L.bt, .int .i64 L.rn, .int .i64 L.fl]
theorem ship_cells {w : World} {k b : Nat} {d : Value} {L : Log} (H : w.heap[k]? = some (.cells (shipC b d L) 32 (0, 0))) :
    w.cell? ⟨k, 0, none⟩ = some (.pointer (some ⟨b, 0, none⟩)) ∧ w.cell? ⟨k, 1, none⟩ = some d ∧ w.cell? ⟨k, 2, none⟩ = some L.gs ∧ w.cell? ⟨k, 3, none⟩ = some (.string L.of) ∧ w.cell? ⟨k, 4, none⟩ = some (.int .i64 L.bt) ∧ w.cell? ⟨k, 5, none⟩ = some (.int .i64 L.rn) ∧ w.cell? ⟨k, 6, none⟩ = some (.int .i64 L.fl) ∧ (∀ o, w.frozen? ⟨k, o, none⟩ = false) := by
  refine ⟨?_, ?_, ?_, ?_, ?_, ?_, ?_, fun o => free_of_heap H⟩ <;> (rw [cell_of_heap H]; rfl)
/-- A ship; of its device nothing is said. -/
structure ShipW (B : Nat) (w : World) (k b g : Nat) (c : ChipS) (d : Value) (L : Log) : Prop where
  hk : w.heap[k]? = some (.cells (shipC b d L) 32 (0, 0))
  dv : Dv w b g c
  Bk : B ≤ k
  Bb : B ≤ b
  Bg : B ≤ g
  B1 : 1 ≤ B
structure Ship (B : Nat) (w : World) (k b g q : Nat) (c : ChipS) (run : Int) (L : Log) : Prop where
  s : ShipW B w k b g c (.pointer (some ⟨q, 0, none⟩)) L
  hq : w.heap[q]? = some (.cells (devC b run) 76 (0, 0))
  Bq : B ≤ q
/-- Below B all is as it was; and so is every row of texts. -/
structure FrS (B : Nat) (w w' : World) : Prop where
  bel : Below B w w'
  keep : ∀ (R : Nat) (x : Array Value), w.heap[R]? = some (.cells x 9 (0, 0)) → w'.heap[R]? = some (.cells x 9 (0, 0))
theorem FrS.refl (B : Nat) (w : World) : FrS B w w := ⟨Below.refl _ _, fun _ _ h => h⟩
theorem FrS.trans {B : Nat} {a b c : World} (h : FrS B a b) (k : FrS B b c) : FrS B a c := ⟨h.bel.trans k.bel, fun R x e => k.keep R x (h.keep R x e)⟩
theorem FrS.of {B : Nat} {w w' : World} (h : Below w.heap.size w w') (hB : B ≤ w.heap.size) : FrS B w w' := ⟨h.mono hB, fun _ _ e => below_heap h e⟩
theorem ShipW.lt {B : Nat} {w : World} {k b g : Nat} {c : ChipS} {d : Value} {L : Log} (S : ShipW B w k b g c d L) : k < w.heap.size ∧ b < w.heap.size ∧ g < w.heap.size ∧ B ≤ w.heap.size := by
  have h1 := (Array.getElem?_eq_some_iff.1 S.hk).1
  have h2 := (Array.getElem?_eq_some_iff.1 S.dv.chip.hb).1
  have h3 := (Array.getElem?_eq_some_iff.1 S.dv.chip.hg).1
  have h4 := S.Bk
  exact ⟨h1, h2, h3, by omega⟩
theorem ShipW.below {B : Nat} {w w' : World} {k b g : Nat} {c : ChipS} {d : Value} {L : Log} (S : ShipW B w k b g c d L) (hb : Below w.heap.size w w') : ShipW B w' k b g c d L ∧ FrS B w w' :=
  ⟨⟨below_heap hb S.hk, S.dv.below hb, S.Bk, S.Bb, S.Bg, S.B1⟩, FrS.of hb S.lt.2.2.2⟩
theorem Ship.below {B : Nat} {w w' : World} {k b g q : Nat} {c : ChipS} {run : Int} {L : Log} (S : Ship B w k b g q c run L) (hb : Below w.heap.size w w') : Ship B w' k b g q c run L ∧ FrS B w w' :=
  ⟨⟨(S.s.below hb).1, below_heap hb S.hq, S.Bq⟩, (S.s.below hb).2⟩
theorem neH {w : World} {i j : Nat} {a c : Array Value} {t u : TypeId} {f f' : Nat × Nat} (h1 : w.heap[i]? = some (.cells a t f)) (h2 : w.heap[j]? = some (.cells c u f')) (h : t ≠ u) : i ≠ j := by
  intro e; subst e; rw [h1] at h2; simp at h2; exact h h2.2.1
theorem ShipW.chip {B : Nat} {w w' : World} {k b g : Nat} {c c' : ChipS} {d : Value} {L : Log} (S : ShipW B w k b g c d L) (hc : ChipAt w' b g c') (ho : Only (fun x => x = b ∨ x = g) w w') : ShipW B w' k b g c' d L ∧ FrS B w w' := by
  refine ⟨⟨ho.heap S.hk ?_, S.dv.only hc ho, S.Bk, S.Bb, S.Bg, S.B1⟩, ⟨ho.below S.lt.2.2.2 (fun x hx => by rcases hx with e | e; exact e ▸ S.Bb; exact e ▸ S.Bg), fun _ _ e => ho.heap e (fun hx => by rcases hx with p | p; exact neH e S.dv.chip.hb (by decide) p; exact neH e S.dv.chip.hg (by decide) p)⟩⟩
  rintro (e | e)
  · exact neH S.hk S.dv.chip.hb (by decide) e
  · exact neH S.hk S.dv.chip.hg (by decide) e
theorem Ship.nq {B : Nat} {w : World} {k b g q : Nat} {c : ChipS} {run : Int} {L : Log} (S : Ship B w k b g q c run L) : ¬ (q = b ∨ q = g) := by
  rintro (e | e)
  · exact neH S.hq S.s.dv.chip.hb (by decide) e
  · exact neH S.hq S.s.dv.chip.hg (by decide) e
theorem Ship.chip {B : Nat} {w w' : World} {k b g q : Nat} {c c' : ChipS} {run : Int} {L : Log} (S : Ship B w k b g q c run L) (hc : ChipAt w' b g c') (ho : Only (fun x => x = b ∨ x = g) w w') : Ship B w' k b g q c' run L ∧ FrS B w w' :=
  ⟨⟨(S.s.chip hc ho).1, ho.heap S.hq S.nq, S.Bq⟩, (S.s.chip hc ho).2⟩
theorem Ship.left {B : Nat} {w w' : World} {k b g q : Nat} {c c' : ChipS} {run run' : Int} {L : Log} (S : Ship B w k b g q c run L) (h : Left w w' q b g c' run') : Ship B w' k b g q c' run' L ∧ FrS B w w' := by
  have ho := h.only
  refine ⟨⟨⟨ho.heap S.s.hk ?_, ⟨h.chip, S.s.dv.turns.only ho ?_, S.s.dv.b0, S.s.dv.g0⟩, S.s.Bk, S.s.Bb, S.s.Bg, S.s.B1⟩, h.dev, S.Bq⟩, ⟨ho.below S.s.lt.2.2.2 (fun x hx => by rcases hx with e | e | e; exact e ▸ S.s.Bb; exact e ▸ S.s.Bg; exact e ▸ S.Bq), fun _ _ e => ho.heap e (fun hx => by rcases hx with p | p | p; exact neH e S.s.dv.chip.hb (by decide) p; exact neH e S.s.dv.chip.hg (by decide) p; exact neH e S.hq (by decide) p)⟩⟩
  · rintro (e | e | e)
    · exact neH S.s.hk S.s.dv.chip.hb (by decide) e
    · exact neH S.s.hk S.s.dv.chip.hg (by decide) e
    · exact neH S.s.hk S.hq (by decide) e
  · rintro (e | e | e)
    · exact S.s.dv.b0 e.symm
    · exact S.s.dv.g0 e.symm
    · have := S.Bq; have := S.s.B1; omega
/-- The chip's bytes on a new chip. -/
theorem read_all (c : ChipS) (hl : c.cells.length = 1024) : c.read 0 1024 = mk c.cells := by
  unfold ChipS.read
  rw [if_neg (by omega)]
  simp only [Int.toNat_zero, List.drop_zero]
  rw [List.take_of_length_le (by omega)]; rfl
set_option maxRecDepth 100000 in
set_option maxHeartbeats 4000000 in
theorem movedK_any (w : World) (b g : Nat) (c : ChipS) (h : Dv w b g c) :
    Calls Tryd.prog 30 #[.pointer (some ⟨b, 0, none⟩)] w fun e w' => ∃ b' g', e = .returned (.pointer (some ⟨b', 0, none⟩)) ∧ Dv w' b' g' (movedM c.cells) ∧ w.heap.size ≤ b' ∧ w.heap.size ≤ g' ∧ Below w.heap.size w w' := by
  have hlen := h.chip.len
  have HR : ∀ wx, Below w.heap.size w wx → Calls Tryd.prog 58 #[.pointer (some ⟨b, 0, none⟩), .int .i64 0, .int .i64 1024] wx fun e w' => e = .returned (.string (mk c.cells)) ∧ w' = wx := by
    intro wx hb
    have := read_any wx b g c 0 1024 (by omega) (by omega) (by omega) (by omega) (h.chip.below hb)
    rw [read_all c hlen] at this
    exact this
  have hz : (mk c.cells).size = 1024 := by rw [mk_size]; exact hlen
  have hLM : laidM newChip (mk c.cells) = movedM c.cells := by
    unfold laidM movedM laidN
    rw [hz, mk_data]; rfl
  have HLA := fun wx (hc : ChipAt wx (w.heap.size + 1) w.heap.size newChip) => laid_any wx _ _ newChip (mk c.cells) (by omega) (by show (0 : Int) < _; omega) hc
  rw [hLM] at HLA
  have hT : ∀ {wx}, Below w.heap.size w wx → TurnsAt wx := fun hb => h.turns.below hb
  have hpos : 0 < w.heap.size := lt_of_cell h.turns.t0
  have HNW := new_any w
  generalize mk c.cells = cc at *
  clear h hLM
  go_enter Tryd.func30, Tryd.ntmps30
  go_wp2_with (first
    | (go_at_call 32; refine HNW.mono ?_; rintro en w1 ⟨rfl, hc1, hb1, hs1⟩; have hHR := HR w1 hb1)
    | (go_at_call 58; refine hHR.mono ?_; rintro en w2 ⟨rfl, hw2⟩; have hw3 := hw2.symm; clear hw2; subst hw3)
    | (go_at_call 57; refine (HLA _ hc1).mono ?_; rintro en w3 ⟨rfl, hc3, ho3⟩))
  go_ret
  have hbT := hb1.trans (ho3.below hb1.size (fun x hx => by omega))
  exact ⟨_, _, rfl, ⟨hc3, hT hbT, by omega, by omega⟩, by omega, by omega, hbT⟩
end Go.Proofs.YtcokahccbjdeaaaDoor
