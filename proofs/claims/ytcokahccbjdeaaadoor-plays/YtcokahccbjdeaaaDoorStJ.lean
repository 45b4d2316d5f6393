import Derived.Test.YtcokahccbjdeaaaDoorStH
namespace Go.Proofs.YtcokahccbjdeaaaDoor
open Go.RowKit

theorem erase_dv (w : World) (b g : Nat) (c : ChipS) (s : Nat) (hs : s < 4) (hops : c.ops < 4611686018427385000) (hd : Dv w b g c) :
    Calls Tryd.prog 84 #[.pointer (some ⟨b, 0, none⟩), .int .i64 s] w fun e w' => e = .returned (.tuple #[]) ∧ Dv w' b g (c.prim (.er s)) ∧ Only (fun k => k = b ∨ k = g) w w' := by
  refine (erase_any w b g c s hs hd.chip (by omega)).mono ?_
  rintro e w' ⟨rfl, h1, h2, _⟩
  exact ⟨rfl, hd.only h1 h2, h2⟩
set_option maxRecDepth 100000 in
set_option maxHeartbeats 4000000 in
theorem create_held (w : World) (b g : Nat) (c : ChipS) (h : HeldS) (hk : h.ok) (hops : c.ops < 4611686018427370000) (hd : Dv w b g c) :
    Calls Tryd.prog 75 #[.pointer (some ⟨b, 0, none⟩), h.v] w fun e w' => e = .returned (.tuple #[]) ∧ ChipAt w' b g (c.prims (createOps c.cells h)) ∧ Only (fun k => k = b ∨ k = g) w w' := by
  have HM := fun wx (hb : Below w.heap.size w wx) => marked_any wx b g c (hd.chip.below hb)
  have hb1 : ∀ o, Below w.heap.size w (w.alloc o) := fun o => (Below.refl _ _).alloc (Nat.le_refl _) o
  have hbl : b < w.heap.size := (Array.getElem?_eq_some_iff.1 hd.chip.hb).1
  have hgl : g < w.heap.size := (Array.getElem?_eq_some_iff.1 hd.chip.hg).1
  obtain ⟨c1, hc1⟩ : ∃ c1, c1 = if markedM c.cells then c.prim (.er 2) else c := ⟨_, rfl⟩
  have o1 : c1.ops ≤ c.ops + 1 := by rw [hc1]; split; exact (prim_ops c _).1; omega
  obtain ⟨c2, hc2⟩ : ∃ c2, c2 = c1.prim (.er 0) := ⟨_, rfl⟩
  have o2 : c2.ops ≤ c1.ops + 1 := by rw [hc2]; exact (prim_ops c1 _).1
  obtain ⟨c3, hc3⟩ : ∃ c3, c3 = c2.prim (.er 1) := ⟨_, rfl⟩
  have o3 : c3.ops ≤ c2.ops + 1 := by rw [hc3]; exact (prim_ops c2 _).1
  obtain ⟨c4, hc4⟩ : ∃ c4, c4 = c3.prim (.er 2) := ⟨_, rfl⟩
  have o4 : c4.ops ≤ c3.ops + 1 := by rw [hc4]; exact (prim_ops c3 _).1
  obtain ⟨c5, hc5⟩ : ∃ c5, c5 = c4.prims (writeOps 0 0 h) := ⟨_, rfl⟩
  have o5 : c5.ops ≤ c4.ops + 33 := by rw [hc5]; have := (prims_ops c4 (writeOps 0 0 h)).1; have := writeOps_len 0 0 h hk; omega
  have HC : Hid (c.prims (createOps c.cells h) = c5.program 512 ⟨#[254]⟩) := by
    rw [Hid, hc5, hc4, hc3, hc2, hc1]
    unfold createOps
    rw [ChipS.prims_append, ChipS.prims_append, ChipS.prims_append]
    split <;> rfl
  have HE0 := fun wx (hx : Dv wx b g c1) => erase_dv wx b g c1 0 (by omega) (by omega) hx
  have HE1 := fun wx (hx : Dv wx b g c2) => erase_dv wx b g c2 1 (by omega) (by omega) hx
  have HE2 := fun wx (hx : Dv wx b g c3) => erase_dv wx b g c3 2 (by omega) (by omega) hx
  have HW := fun wx (hx : Dv wx b g c4) => write_page wx b g c4 0 0 h (by omega) (by omega) hk (by omega) hx
  have HP := fun wx (hx : Dv wx b g c5) => program_all wx b g c5 512 ⟨#[254]⟩ (by omega) (by omega) (by decide) hx.chip (by omega)
  rw [← hc2] at HE0
  rw [← hc3] at HE1
  rw [← hc4] at HE2
  rw [← hc5] at HW
  have HCF : ∀ {wa wb : World}, Dv wa b g c4 → ChipAt wb b g c5 → Only (fun k => k = b ∨ k = g) wa wb → Dv wb b g c5 := fun x y z => x.only y z
  cases hm : markedM c.cells
  · rw [hm] at HM hc1
    have hcc : c1 = c := hc1
    rw [hcc] at HE0
    clear hc1 hc2 hc3 hc4 hc5 hm o1 o2 o3 o4 o5 hk
    obtain ⟨gd, fl, tr, ts, sz, gt⟩ := h
    simp only [HeldS.v, pageV] at *
    have t1 : True := trivial
    have t2 : True := trivial
    go_enter Tryd.func75, Tryd.ntmps75
    go_wp2_with (first
      | (go_at_call 52; refine (HM _ (hb1 _)).mono ?_; rintro en w2 ⟨rfl, rfl⟩)
      | (go_at_call 84; have _t := t1; refine (HE0 _ (hd.below (hb1 _))).mono ?_; rintro en w3 ⟨rfl, hd3, ho3⟩; clear t1; have hA3 := ho3.heap (heap_alloc_new w _) (by omega))
      | (go_at_call 84; have _t := t2; refine (HE1 _ hd3).mono ?_; rintro en w4 ⟨rfl, hd4, ho4⟩; clear t2; have hA4 := ho4.heap hA3 (by omega))
      | (go_at_call 84; refine (HE2 _ hd4).mono ?_; rintro en w5 ⟨rfl, hd5, ho5⟩; have hA5 := ho5.heap hA4 (by omega); have hA6 : w5.heap[w.heap.size]? = some (.cells (HeldS.cs ⟨gd, fl, tr, ts, sz, gt⟩) 72 (0, 0)) := hA5; clear hA3 hA4 hA5; obtain ⟨q0, q1, q2, q3, q4, q5, qf⟩ := held_cells hA6; simp only at q0 q1 q2 q3 q4 q5)
      | (go_at_call 56; refine (HW _ hd5).mono ?_; rintro en w6 ⟨rfl, hc6, ho6⟩; have hd6 := HCF hd5 hc6 ho6)
      | (go_at_call 60; refine (HP _ hd6).mono ?_; rintro en w7 ⟨rfl, hc7, ho7, _⟩))
    refine bodyPost_end (results_none rfl _ _ _) rfl ⟨rfl, by rw [HC.out]; exact hc7, (Only.of_below _ (hb1 _)).trans (ho3.trans (ho4.trans (ho5.trans (ho6.trans ho7))))⟩
  · rw [hm] at HM hc1
    have hcc : c1 = c.prim (.er 2) := hc1
    have HE := fun wx (hx : Dv wx b g c) => erase_dv wx b g c 2 (by omega) (by omega) hx
    rw [← hcc] at HE
    clear hc1 hc2 hc3 hc4 hc5 hm o1 o2 o3 o4 o5 hk hcc
    obtain ⟨gd, fl, tr, ts, sz, gt⟩ := h
    simp only [HeldS.v, pageV] at *
    have t0 : True := trivial
    have t1 : True := trivial
    have t2 : True := trivial
    go_enter Tryd.func75, Tryd.ntmps75
    go_wp2_with (first
      | (go_at_call 52; refine (HM _ (hb1 _)).mono ?_; rintro en w2 ⟨rfl, rfl⟩)
      | (go_at_call 84; have _t := t0; refine (HE _ (hd.below (hb1 _))).mono ?_; rintro en w1 ⟨rfl, hd1, ho1⟩; clear t0; have hA1 := ho1.heap (heap_alloc_new w _) (by omega))
      | (go_at_call 84; have _t := t1; refine (HE0 _ hd1).mono ?_; rintro en w3 ⟨rfl, hd3, ho3⟩; clear t1; have hA3 := ho3.heap hA1 (by omega))
      | (go_at_call 84; have _t := t2; refine (HE1 _ hd3).mono ?_; rintro en w4 ⟨rfl, hd4, ho4⟩; clear t2; have hA4 := ho4.heap hA3 (by omega))
      | (go_at_call 84; refine (HE2 _ hd4).mono ?_; rintro en w5 ⟨rfl, hd5, ho5⟩; have hA5 := ho5.heap hA4 (by omega); have hA6 : w5.heap[w.heap.size]? = some (.cells (HeldS.cs ⟨gd, fl, tr, ts, sz, gt⟩) 72 (0, 0)) := hA5; clear hA1 hA3 hA4 hA5; obtain ⟨q0, q1, q2, q3, q4, q5, qf⟩ := held_cells hA6; simp only at q0 q1 q2 q3 q4 q5)
      | (go_at_call 56; refine (HW _ hd5).mono ?_; rintro en w6 ⟨rfl, hc6, ho6⟩; have hd6 := HCF hd5 hc6 ho6)
      | (go_at_call 60; refine (HP _ hd6).mono ?_; rintro en w7 ⟨rfl, hc7, ho7, _⟩))
    refine bodyPost_end (results_none rfl _ _ _) rfl ⟨rfl, by rw [HC.out]; exact hc7, (Only.of_below _ (hb1 _)).trans (ho1.trans (ho3.trans (ho4.trans (ho5.trans (ho6.trans ho7)))))⟩
end Go.Proofs.YtcokahccbjdeaaaDoor
