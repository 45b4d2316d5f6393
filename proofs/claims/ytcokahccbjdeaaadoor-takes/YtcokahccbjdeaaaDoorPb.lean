import Derived.Test.YtcokahccbjdeaaaDoorPa
namespace Go.Proofs.YtcokahccbjdeaaaDoor
open Go.RowKit

theorem three_far {w8 : World} {p k : Nat} {n ct : Int} {s tn : ByteArray} {wh : Bool} (O8 : w8.heap[p]? = some (.cells #[.int .i64 2, .int .i64 n, .int .i64 ct, .string s, .string tn, .bool wh] 50 (0, 0))) (h : p ≠ k) (u v z : Value) (x : Obj) :
    ((((w8.setCell ⟨k, 3, none⟩ u).setCell ⟨k, 2, none⟩ v).setCell ⟨k, 1, none⟩ z).alloc x).cell? ⟨p, 0, none⟩ = some (.int .i64 2) := by
  have e : (((w8.setCell ⟨k, 3, none⟩ u).setCell ⟨k, 2, none⟩ v).setCell ⟨k, 1, none⟩ z).heap[p]? = some (.cells #[.int .i64 2, .int .i64 n, .int .i64 ct, .string s, .string tn, .bool wh] 50 (0, 0)) := by
    rw [heap_setCell_ne _ _ _ _ _ h, heap_setCell_ne _ _ _ _ _ h, heap_setCell_ne _ _ _ _ _ h]; exact O8
  rw [cell_of_heap (alloc_heap e x)]; rfl
set_option maxRecDepth 100000 in
set_option maxHeartbeats 8000000 in
theorem step_formatOk (w : World) (B N k b g m : Nat) (c : ChipS) (d : Option Nat) (run : Int) (r : RefS) (n ct : Int) (s tn : ByteArray) (wh : Bool) (I : Inv B N w k b g m c d run r) (hN : N < 4611686018427360000) (hs : s.size < 4611686018427387904) (he : (opRef r ⟨2, n, ct, s, tn, wh⟩).2 = 0) :
    Calls Tryd.prog 16 #[.pointer (some ⟨k, 0, none⟩), OpS.v ⟨2, n, ct, s, tn, wh⟩, .bool false] w fun e w' => e = .returned (.bool true) ∧ Good B (N + 64) w' k ∧ Fr B w w' := by
  have D := I.D
  have hops := I.ops
  obtain ⟨F1, F2, n64, hn64, F3⟩ := fitsOp (o := ⟨2, n, ct, s, tn, wh⟩) I.rel (Or.inl rfl)
  have hmd : d.isSome = true → (opRef r ⟨2, n, ct, s, tn, wh⟩).1.made = true := fun h => ref_made (by simp) (I.dm h)
  have hrn := Runs.keep (o := ⟨2, n, ct, s, tn, wh⟩) I.runs I.rel (by simp)
  have hgb : (opRef r ⟨2, n, ct, s, tn, wh⟩).1.h.got.size ≤ 1048576 := by
    cases hmm : (opRef r ⟨2, n, ct, s, tn, wh⟩).1.made
    · rw [ref_unmade rfl hmm]; exact I.hg
    · obtain ⟨_, hk⟩ := F2.yes hmm
      have := hk.behind; omega
  have HSU := fun wx (D : Desk B wx k b g m c d run r) => sure_any wx B k b g m c d run r D
  have HAF := fun wx (D : Desk B wx k b g m c d run r) => after_any wx B k b g m c d run r ⟨2, n, ct, s, tn, wh⟩ D (by simp) hs I.hg
  have HOP := fun wx (D : Desk B wx k b g m c d run r) => ops_any wx b g c D.dv.chip
  have HAR := fun wx => armed_no wx k ⟨2, n, ct, s, tn, wh⟩
  have HCA := fun wx (D : Desk B wx k b g m c d run r) => calls_any wx B k b g m c d run r ⟨2, n, ct, s, tn, wh⟩ D (by omega) (Or.inl rfl) I.rel.hok hs
  have L' := F2.live
  rw [F1] at HCA
  generalize opRef r ⟨2, n, ct, s, tn, wh⟩ = out at *
  generalize opDev c ⟨2, n, ct, s, tn, wh⟩ = od at *
  obtain ⟨c', e1⟩ := od
  obtain ⟨r', e'⟩ := out
  simp only at F1 F2 F3 HAF HCA hmd hgb L' hrn he
  have HSP := fun wx (D : Desk B wx k b g m c' d run r) => spent_no wx B k b g m c' d run r c.ops ⟨2, n, ct, s, tn, wh⟩ D L'.dead (by omega) (by omega)
  have HDE := fun wx (D : Desk B wx k b g m c' d run r) => dead_any wx b g c' D.dv.chip
  rw [L'.dead] at HDE
  have HRE : ∀ wx, Desk B wx k b g m c' d run r → Calls Tryd.prog 43 #[.pointer (some ⟨b, 0, none⟩)] wx fun e w' => e = .returned (.tuple #[]) ∧ Desk B w' k b g m c' d run r ∧ Only (fun x => x = b ∨ x = g) wx w' := by
    intro wx D
    refine (restore_any wx b g c' D.dv.chip).mono ?_
    rintro e w' ⟨rfl, h1, h2, _⟩
    rw [L'.restore] at h1
    exact ⟨rfl, D.chip h1 h2, h2⟩
  have hop2 : c'.ops ≤ ((N + 64 : Nat) : Int) := by omega
  have hFin : ∀ w' m' d', Desk B w' k b g m' c' d' run r' → (d' = d ∨ d' = none) → Good B (N + 64) w' k := fun w' m' d' D' hd' => ⟨b, g, m', c', d', run, r', D', F2, (fun h => made_of hd' hmd h), hop2, hgb, hrn⟩
  have hD1 : ∀ x, Desk B (w.alloc x) k b g m c d run r := fun x => D.below ((Below.refl _ _).alloc (Nat.le_refl _) x)
  have hE1 : ∀ x, Fr B w (w.alloc x) := fun x => (Fr.refl _ _).alloc D.size x
  have hO1 := heap_alloc_new w (.cells (OpS.cs ⟨2, n, ct, s, tn, wh⟩) 50)
  have hbl : b < w.heap.size := D.lt.2.1
  have hgl : g < w.heap.size := D.lt.2.2.1
  have nbg : ¬ (w.heap.size = b ∨ w.heap.size = g) := by omega
  have q1 : ∀ x, (w.alloc x).cell? ⟨k, 1, none⟩ = some (devV d) := fun x => (desk_cells (hD1 x).hk).2.1
  obtain ⟨md', gd', fl', tr', ts', sz', gt'⟩ := r'
  simp only [OpS.v, OpS.cs, RefS.v, noJump] at HAF HAR HCA HSP hO1 ⊢
  have hkeep : Hid (∀ q, d = some q → w.heap[q]? = some (.cells (devC b run) 76 (0, 0)) ∧ B ≤ q) := D.hd
  clear I D hN hmd hgb hrn F1 F2 F3 hop2 L' hn64 
  subst he
  go_enter Tryd.func16, Tryd.ntmps16
  go_wp2_with (first
    | (go_at_call 36; refine (HSU _ (hD1 _)).mono ?_; rintro en w1 ⟨rfl, rfl⟩)
    | (go_at_call 37; refine (HAF _ (hD1 _)).mono ?_; rintro en w1 ⟨rfl, hb1⟩; have D2 : ∀ x, Desk B (w1.alloc x) k b g m c d run r := fun x => ((hD1 _).below hb1).below ((Below.refl _ _).alloc (Nat.le_refl _) x); have E2 : ∀ x, Fr B w (w1.alloc x) := fun x => ((hE1 _).trans (Fr.of hb1 (hD1 _).size)).alloc ((hD1 _).below hb1).size x; have O2 := fun x => alloc_heap (below_heap hb1 hO1) x; have H2 := heap_alloc_new w1 (.cells (RefS.cs ⟨md', gd', fl', tr', ts', sz', gt'⟩) 83); have hHlt : w.heap.size < w1.heap.size := Nat.lt_of_lt_of_le (by simp) hb1.size; have u0 : ∀ x, (w1.alloc x).cell? ⟨k, 0, none⟩ = some (.pointer (some ⟨b, 0, none⟩)) := fun x => (desk_cells (D2 x).hk).1; have o0 : ∀ x, (w1.alloc x).cell? ⟨w.heap.size, 0, none⟩ = some (.int .i64 2) := fun x => (op_cells (o := ⟨2, n, ct, s, tn, wh⟩) (O2 x)).1; have o1 : ∀ x, (w1.alloc x).cell? ⟨w.heap.size, 1, none⟩ = some (.int .i64 n) := fun x => (op_cells (o := ⟨2, n, ct, s, tn, wh⟩) (O2 x)).2.1; have o2 : ∀ x, (w1.alloc x).cell? ⟨w.heap.size, 2, none⟩ = some (.int .i64 ct) := fun x => (op_cells (o := ⟨2, n, ct, s, tn, wh⟩) (O2 x)).2.2.1; have o3 : ∀ x, (w1.alloc x).cell? ⟨w.heap.size, 3, none⟩ = some (.string s) := fun x => (op_cells (o := ⟨2, n, ct, s, tn, wh⟩) (O2 x)).2.2.2.1; have o4 : ∀ x, (w1.alloc x).cell? ⟨w.heap.size, 4, none⟩ = some (.string tn) := fun x => (op_cells (o := ⟨2, n, ct, s, tn, wh⟩) (O2 x)).2.2.2.2.1; have o5 : ∀ x, (w1.alloc x).cell? ⟨w.heap.size, 5, none⟩ = some (.bool wh) := fun x => (op_cells (o := ⟨2, n, ct, s, tn, wh⟩) (O2 x)).2.2.2.2.2.1)
    | (go_at_call 38; refine (HOP _ (D2 _)).mono ?_; rintro en w2 ⟨rfl, rfl⟩)
    | (go_at_call 39; refine (HAR _).mono ?_; rintro en w3 ⟨rfl, hb3⟩; have D3 := (D2 _).below hb3; have E3 := (E2 _).trans (Fr.of hb3 (D2 _).size); have O3 := below_heap hb3 (O2 _); have H3 := below_heap hb3 H2; obtain ⟨v0, v1, v2, v3, v4, v5, vf⟩ := op_cells (o := ⟨2, n, ct, s, tn, wh⟩) O3; simp only at v0 v1 v2 v3 v4 v5)
    | (go_at_call 40; refine (HCA _ D3).mono ?_; rintro en w4 ⟨rfl, hc4, ho4⟩; have D4 := D3.chip hc4 ho4; have E4 := E3.trans (D3.onlyB ho4); have O4 := ho4.heap O3 nbg; have H4 := ho4.heap H3 (by omega); have D5 : ∀ x, Desk B (w4.alloc x) k b g m c' d run r := fun x => D4.below ((Below.refl _ _).alloc (Nat.le_refl _) x); have E5 : ∀ x, Fr B w (w4.alloc x) := fun x => E4.alloc D4.size x; have x0 : ∀ x, (w4.alloc x).cell? ⟨w.heap.size, 0, none⟩ = some (.int .i64 2) := fun x => (op_cells (o := ⟨2, n, ct, s, tn, wh⟩) (alloc_heap O4 x)).1; have x1 : ∀ x, (w4.alloc x).cell? ⟨w.heap.size, 1, none⟩ = some (.int .i64 n) := fun x => (op_cells (o := ⟨2, n, ct, s, tn, wh⟩) (alloc_heap O4 x)).2.1; have x2 : ∀ x, (w4.alloc x).cell? ⟨w.heap.size, 2, none⟩ = some (.int .i64 ct) := fun x => (op_cells (o := ⟨2, n, ct, s, tn, wh⟩) (alloc_heap O4 x)).2.2.1; have x3 : ∀ x, (w4.alloc x).cell? ⟨w.heap.size, 3, none⟩ = some (.string s) := fun x => (op_cells (o := ⟨2, n, ct, s, tn, wh⟩) (alloc_heap O4 x)).2.2.2.1; have x4 : ∀ x, (w4.alloc x).cell? ⟨w.heap.size, 4, none⟩ = some (.string tn) := fun x => (op_cells (o := ⟨2, n, ct, s, tn, wh⟩) (alloc_heap O4 x)).2.2.2.2.1; have x5 : ∀ x, (w4.alloc x).cell? ⟨w.heap.size, 5, none⟩ = some (.bool wh) := fun x => (op_cells (o := ⟨2, n, ct, s, tn, wh⟩) (alloc_heap O4 x)).2.2.2.2.2.1)
    | (go_at_call 41; refine (HSP _ (D5 _)).mono ?_; rintro en w6 ⟨rfl, hb6⟩; have D6 := (D5 _).below hb6; have E6 := (E5 _).trans (Fr.of hb6 (D5 _).size); have O6 := below_heap hb6 (alloc_heap O4 _); have H6 := below_heap hb6 (alloc_heap H4 _); have y0 := (desk_cells D6.hk).1)
    | (go_at_call 42; refine (HDE _ D6).mono ?_; rintro en w7 ⟨rfl, rfl⟩))
  refine (HRE _ D6).mono ?_
  rintro en w8 ⟨rfl, D8, ho8⟩
  have E8 := E6.trans (D6.onlyB ho8)
  have O8 := ho8.heap O6 nbg
  have H8 := ho8.heap H6 (by omega)
  obtain ⟨a0, a1, a2, a3, af⟩ := desk_cells D8.hk
  obtain ⟨h0, h1, h2, h3, h4, h5, h6, hf⟩ := ref_cells H8
  have z0 := (op_cells (o := ⟨2, n, ct, s, tn, wh⟩) O8).1
  have kl := D8.lt.1
  have kn : ¬ k = w8.heap.size := by omega
  have kn2 : ¬ w8.heap.size = k := by omega
  have pl : ¬ w.heap.size = w8.heap.size := by (have t1 := (Array.getElem?_eq_some_iff.1 O8).1; omega)
  have A3 : ∀ x, (w8.alloc x).cell? ⟨k, 3, none⟩ = some (.slice (some ⟨m, 0, none⟩) 1 1) := fun x => (desk_cells (alloc_heap D8.hk x)).2.2.2.1
  have A2 : ∀ x, (w8.alloc x).cell? ⟨k, 2, none⟩ = some (.int .i64 run) := fun x => (desk_cells (alloc_heap D8.hk x)).2.2.1
  have A1 : ∀ x, (w8.alloc x).cell? ⟨k, 1, none⟩ = some (devV d) := fun x => (desk_cells (alloc_heap D8.hk x)).2.1
  have AF : ∀ x y, (w8.alloc x).frozen? ⟨k, y, none⟩ = false := fun x => (desk_cells (alloc_heap D8.hk x)).2.2.2.2
  have Z0 : ∀ x, (w8.alloc x).cell? ⟨w.heap.size, 0, none⟩ = some (.int .i64 2) := fun x => (op_cells (o := ⟨2, n, ct, s, tn, wh⟩) (alloc_heap O8 x)).1
  have ZK : ∀ u v x, (((w8.setCell ⟨k, 3, none⟩ u).setCell ⟨k, 2, none⟩ v).alloc x).cell? ⟨w.heap.size, 0, none⟩ = some (.int .i64 2) := fun u v x => (cell_same (w := w8.alloc x) (p := ⟨w.heap.size, 0, none⟩) (two_far w8 k w.heap.size u v x (ne_of_heap O8 D8.hk (by decide)))).trans (Z0 x)
  simp only at h0 h1 h2 h3 h4 h5 h6 z0
  have ZK3 : ∀ u v z x, ((((w8.setCell ⟨k, 3, none⟩ u).setCell ⟨k, 2, none⟩ v).setCell ⟨k, 1, none⟩ z).alloc x).cell? ⟨w.heap.size, 0, none⟩ = some (.int .i64 2) := fun u v z x => three_far O8 (ne_of_heap O8 D8.hk (by decide)) u v z x
  go_wp2
  go_ret
  have hon : ∀ u v z, Only (fun x => x = k) w8 (((w8.setCell ⟨k, 3, none⟩ u).setCell ⟨k, 2, none⟩ v).setCell ⟨k, 1, none⟩ z) := fun u v z => (((Only.refl _ _).k 3 _).k 2 _).k 1 _
  have FN := D8.fin1 (d' := none) (run' := run) (r' := ⟨md', gd', fl', tr', ts', sz', gt'⟩) (.cells #[.bool md', .string gd', .int .i64 fl', .string tr', .int .i64 ts', .int .i64 sz', .string gt'] 83) (hon _ _ _) (desk_put4 D8.hk run) (by rw [size_set, size_set, size_set]) rfl (noDev b run)
  exact ⟨rfl, hFin _ _ none FN.1 (Or.inr rfl), E8.trans FN.2⟩
set_option maxRecDepth 100000 in
set_option maxHeartbeats 8000000 in
theorem step_formatNo (w : World) (B N k b g m : Nat) (c : ChipS) (d : Option Nat) (run : Int) (r : RefS) (n ct : Int) (s tn : ByteArray) (wh : Bool) (I : Inv B N w k b g m c d run r) (hN : N < 4611686018427360000) (hs : s.size < 4611686018427387904) (he : ¬ (opRef r ⟨2, n, ct, s, tn, wh⟩).2 = 0) :
    Calls Tryd.prog 16 #[.pointer (some ⟨k, 0, none⟩), OpS.v ⟨2, n, ct, s, tn, wh⟩, .bool false] w fun e w' => e = .returned (.bool true) ∧ Good B (N + 64) w' k ∧ Fr B w w' := by
  have D := I.D
  have hops := I.ops
  obtain ⟨F1, F2, n64, hn64, F3⟩ := fitsOp (o := ⟨2, n, ct, s, tn, wh⟩) I.rel (Or.inl rfl)
  have hmd : d.isSome = true → (opRef r ⟨2, n, ct, s, tn, wh⟩).1.made = true := fun h => ref_made (by simp) (I.dm h)
  have hrn := Runs.keep (o := ⟨2, n, ct, s, tn, wh⟩) I.runs I.rel (by simp)
  have hgb : (opRef r ⟨2, n, ct, s, tn, wh⟩).1.h.got.size ≤ 1048576 := by
    cases hmm : (opRef r ⟨2, n, ct, s, tn, wh⟩).1.made
    · rw [ref_unmade rfl hmm]; exact I.hg
    · obtain ⟨_, hk⟩ := F2.yes hmm
      have := hk.behind; omega
  have HSU := fun wx (D : Desk B wx k b g m c d run r) => sure_any wx B k b g m c d run r D
  have HAF := fun wx (D : Desk B wx k b g m c d run r) => after_any wx B k b g m c d run r ⟨2, n, ct, s, tn, wh⟩ D (by simp) hs I.hg
  have HOP := fun wx (D : Desk B wx k b g m c d run r) => ops_any wx b g c D.dv.chip
  have HAR := fun wx => armed_no wx k ⟨2, n, ct, s, tn, wh⟩
  have HCA := fun wx (D : Desk B wx k b g m c d run r) => calls_any wx B k b g m c d run r ⟨2, n, ct, s, tn, wh⟩ D (by omega) (Or.inl rfl) I.rel.hok hs
  have L' := F2.live
  rw [F1] at HCA
  generalize opRef r ⟨2, n, ct, s, tn, wh⟩ = out at *
  generalize opDev c ⟨2, n, ct, s, tn, wh⟩ = od at *
  obtain ⟨c', e1⟩ := od
  obtain ⟨r', e'⟩ := out
  simp only at F1 F2 F3 HAF HCA hmd hgb L' hrn he
  have HSP := fun wx (D : Desk B wx k b g m c' d run r) => spent_no wx B k b g m c' d run r c.ops ⟨2, n, ct, s, tn, wh⟩ D L'.dead (by omega) (by omega)
  have HDE := fun wx (D : Desk B wx k b g m c' d run r) => dead_any wx b g c' D.dv.chip
  rw [L'.dead] at HDE
  have HRE : ∀ wx, Desk B wx k b g m c' d run r → Calls Tryd.prog 43 #[.pointer (some ⟨b, 0, none⟩)] wx fun e w' => e = .returned (.tuple #[]) ∧ Desk B w' k b g m c' d run r ∧ Only (fun x => x = b ∨ x = g) wx w' := by
    intro wx D
    refine (restore_any wx b g c' D.dv.chip).mono ?_
    rintro e w' ⟨rfl, h1, h2, _⟩
    rw [L'.restore] at h1
    exact ⟨rfl, D.chip h1 h2, h2⟩
  have hop2 : c'.ops ≤ ((N + 64 : Nat) : Int) := by omega
  have hFin : ∀ w' m' d', Desk B w' k b g m' c' d' run r' → (d' = d ∨ d' = none) → Good B (N + 64) w' k := fun w' m' d' D' hd' => ⟨b, g, m', c', d', run, r', D', F2, (fun h => made_of hd' hmd h), hop2, hgb, hrn⟩
  have hD1 : ∀ x, Desk B (w.alloc x) k b g m c d run r := fun x => D.below ((Below.refl _ _).alloc (Nat.le_refl _) x)
  have hE1 : ∀ x, Fr B w (w.alloc x) := fun x => (Fr.refl _ _).alloc D.size x
  have hO1 := heap_alloc_new w (.cells (OpS.cs ⟨2, n, ct, s, tn, wh⟩) 50)
  have hbl : b < w.heap.size := D.lt.2.1
  have hgl : g < w.heap.size := D.lt.2.2.1
  have nbg : ¬ (w.heap.size = b ∨ w.heap.size = g) := by omega
  have q1 : ∀ x, (w.alloc x).cell? ⟨k, 1, none⟩ = some (devV d) := fun x => (desk_cells (hD1 x).hk).2.1
  obtain ⟨md', gd', fl', tr', ts', sz', gt'⟩ := r'
  simp only [OpS.v, OpS.cs, RefS.v, noJump] at HAF HAR HCA HSP hO1 ⊢
  have hkeep : Hid (∀ q, d = some q → w.heap[q]? = some (.cells (devC b run) 76 (0, 0)) ∧ B ≤ q) := D.hd
  clear I D hN hmd hgb hrn F1 F2 F3 hop2 L' hn64 
  have heb : (e' == 0) = false := by simp [he]
  go_enter Tryd.func16, Tryd.ntmps16
  go_wp2_with (first
    | (go_at_call 36; refine (HSU _ (hD1 _)).mono ?_; rintro en w1 ⟨rfl, rfl⟩)
    | (go_at_call 37; refine (HAF _ (hD1 _)).mono ?_; rintro en w1 ⟨rfl, hb1⟩; have D2 : ∀ x, Desk B (w1.alloc x) k b g m c d run r := fun x => ((hD1 _).below hb1).below ((Below.refl _ _).alloc (Nat.le_refl _) x); have E2 : ∀ x, Fr B w (w1.alloc x) := fun x => ((hE1 _).trans (Fr.of hb1 (hD1 _).size)).alloc ((hD1 _).below hb1).size x; have O2 := fun x => alloc_heap (below_heap hb1 hO1) x; have H2 := heap_alloc_new w1 (.cells (RefS.cs ⟨md', gd', fl', tr', ts', sz', gt'⟩) 83); have hHlt : w.heap.size < w1.heap.size := Nat.lt_of_lt_of_le (by simp) hb1.size; have u0 : ∀ x, (w1.alloc x).cell? ⟨k, 0, none⟩ = some (.pointer (some ⟨b, 0, none⟩)) := fun x => (desk_cells (D2 x).hk).1; have o0 : ∀ x, (w1.alloc x).cell? ⟨w.heap.size, 0, none⟩ = some (.int .i64 2) := fun x => (op_cells (o := ⟨2, n, ct, s, tn, wh⟩) (O2 x)).1; have o1 : ∀ x, (w1.alloc x).cell? ⟨w.heap.size, 1, none⟩ = some (.int .i64 n) := fun x => (op_cells (o := ⟨2, n, ct, s, tn, wh⟩) (O2 x)).2.1; have o2 : ∀ x, (w1.alloc x).cell? ⟨w.heap.size, 2, none⟩ = some (.int .i64 ct) := fun x => (op_cells (o := ⟨2, n, ct, s, tn, wh⟩) (O2 x)).2.2.1; have o3 : ∀ x, (w1.alloc x).cell? ⟨w.heap.size, 3, none⟩ = some (.string s) := fun x => (op_cells (o := ⟨2, n, ct, s, tn, wh⟩) (O2 x)).2.2.2.1; have o4 : ∀ x, (w1.alloc x).cell? ⟨w.heap.size, 4, none⟩ = some (.string tn) := fun x => (op_cells (o := ⟨2, n, ct, s, tn, wh⟩) (O2 x)).2.2.2.2.1; have o5 : ∀ x, (w1.alloc x).cell? ⟨w.heap.size, 5, none⟩ = some (.bool wh) := fun x => (op_cells (o := ⟨2, n, ct, s, tn, wh⟩) (O2 x)).2.2.2.2.2.1)
    | (go_at_call 38; refine (HOP _ (D2 _)).mono ?_; rintro en w2 ⟨rfl, rfl⟩)
    | (go_at_call 39; refine (HAR _).mono ?_; rintro en w3 ⟨rfl, hb3⟩; have D3 := (D2 _).below hb3; have E3 := (E2 _).trans (Fr.of hb3 (D2 _).size); have O3 := below_heap hb3 (O2 _); have H3 := below_heap hb3 H2; obtain ⟨v0, v1, v2, v3, v4, v5, vf⟩ := op_cells (o := ⟨2, n, ct, s, tn, wh⟩) O3; simp only at v0 v1 v2 v3 v4 v5)
    | (go_at_call 40; refine (HCA _ D3).mono ?_; rintro en w4 ⟨rfl, hc4, ho4⟩; have D4 := D3.chip hc4 ho4; have E4 := E3.trans (D3.onlyB ho4); have O4 := ho4.heap O3 nbg; have H4 := ho4.heap H3 (by omega); have D5 : ∀ x, Desk B (w4.alloc x) k b g m c' d run r := fun x => D4.below ((Below.refl _ _).alloc (Nat.le_refl _) x); have E5 : ∀ x, Fr B w (w4.alloc x) := fun x => E4.alloc D4.size x; have x0 : ∀ x, (w4.alloc x).cell? ⟨w.heap.size, 0, none⟩ = some (.int .i64 2) := fun x => (op_cells (o := ⟨2, n, ct, s, tn, wh⟩) (alloc_heap O4 x)).1; have x1 : ∀ x, (w4.alloc x).cell? ⟨w.heap.size, 1, none⟩ = some (.int .i64 n) := fun x => (op_cells (o := ⟨2, n, ct, s, tn, wh⟩) (alloc_heap O4 x)).2.1; have x2 : ∀ x, (w4.alloc x).cell? ⟨w.heap.size, 2, none⟩ = some (.int .i64 ct) := fun x => (op_cells (o := ⟨2, n, ct, s, tn, wh⟩) (alloc_heap O4 x)).2.2.1; have x3 : ∀ x, (w4.alloc x).cell? ⟨w.heap.size, 3, none⟩ = some (.string s) := fun x => (op_cells (o := ⟨2, n, ct, s, tn, wh⟩) (alloc_heap O4 x)).2.2.2.1; have x4 : ∀ x, (w4.alloc x).cell? ⟨w.heap.size, 4, none⟩ = some (.string tn) := fun x => (op_cells (o := ⟨2, n, ct, s, tn, wh⟩) (alloc_heap O4 x)).2.2.2.2.1; have x5 : ∀ x, (w4.alloc x).cell? ⟨w.heap.size, 5, none⟩ = some (.bool wh) := fun x => (op_cells (o := ⟨2, n, ct, s, tn, wh⟩) (alloc_heap O4 x)).2.2.2.2.2.1)
    | (go_at_call 41; refine (HSP _ (D5 _)).mono ?_; rintro en w6 ⟨rfl, hb6⟩; have D6 := (D5 _).below hb6; have E6 := (E5 _).trans (Fr.of hb6 (D5 _).size); have O6 := below_heap hb6 (alloc_heap O4 _); have H6 := below_heap hb6 (alloc_heap H4 _); have y0 := (desk_cells D6.hk).1)
    | (go_at_call 42; refine (HDE _ D6).mono ?_; rintro en w7 ⟨rfl, rfl⟩))
  refine (HRE _ D6).mono ?_
  rintro en w8 ⟨rfl, D8, ho8⟩
  have E8 := E6.trans (D6.onlyB ho8)
  have O8 := ho8.heap O6 nbg
  have H8 := ho8.heap H6 (by omega)
  obtain ⟨a0, a1, a2, a3, af⟩ := desk_cells D8.hk
  obtain ⟨h0, h1, h2, h3, h4, h5, h6, hf⟩ := ref_cells H8
  have z0 := (op_cells (o := ⟨2, n, ct, s, tn, wh⟩) O8).1
  have kl := D8.lt.1
  have kn : ¬ k = w8.heap.size := by omega
  have kn2 : ¬ w8.heap.size = k := by omega
  have pl : ¬ w.heap.size = w8.heap.size := by (have t1 := (Array.getElem?_eq_some_iff.1 O8).1; omega)
  have A3 : ∀ x, (w8.alloc x).cell? ⟨k, 3, none⟩ = some (.slice (some ⟨m, 0, none⟩) 1 1) := fun x => (desk_cells (alloc_heap D8.hk x)).2.2.2.1
  have A2 : ∀ x, (w8.alloc x).cell? ⟨k, 2, none⟩ = some (.int .i64 run) := fun x => (desk_cells (alloc_heap D8.hk x)).2.2.1
  have A1 : ∀ x, (w8.alloc x).cell? ⟨k, 1, none⟩ = some (devV d) := fun x => (desk_cells (alloc_heap D8.hk x)).2.1
  have AF : ∀ x y, (w8.alloc x).frozen? ⟨k, y, none⟩ = false := fun x => (desk_cells (alloc_heap D8.hk x)).2.2.2.2
  have Z0 : ∀ x, (w8.alloc x).cell? ⟨w.heap.size, 0, none⟩ = some (.int .i64 2) := fun x => (op_cells (o := ⟨2, n, ct, s, tn, wh⟩) (alloc_heap O8 x)).1
  have ZK : ∀ u v x, (((w8.setCell ⟨k, 3, none⟩ u).setCell ⟨k, 2, none⟩ v).alloc x).cell? ⟨w.heap.size, 0, none⟩ = some (.int .i64 2) := fun u v x => (cell_same (w := w8.alloc x) (p := ⟨w.heap.size, 0, none⟩) (two_far w8 k w.heap.size u v x (ne_of_heap O8 D8.hk (by decide)))).trans (Z0 x)
  simp only at h0 h1 h2 h3 h4 h5 h6 z0
  go_wp2
  go_ret
  have hon : ∀ u v, Only (fun x => x = k) w8 ((w8.setCell ⟨k, 3, none⟩ u).setCell ⟨k, 2, none⟩ v) := fun u v => ((Only.refl _ _).k 3 _).k 2 _
  have FN := D8.fin1 (d' := d) (run' := run) (r' := ⟨md', gd', fl', tr', ts', sz', gt'⟩) (.cells #[.bool md', .string gd', .int .i64 fl', .string tr', .int .i64 ts', .int .i64 sz', .string gt'] 83) (hon _ _) (desk_put2 D8.hk run) (by rw [size_set, size_set]) rfl D8.hd
  exact ⟨rfl, hFin _ _ d FN.1 (Or.inl rfl), E8.trans FN.2⟩
end Go.Proofs.YtcokahccbjdeaaaDoor
