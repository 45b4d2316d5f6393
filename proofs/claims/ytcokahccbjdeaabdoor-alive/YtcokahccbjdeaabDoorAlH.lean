import Derived.Test.YtcokahccbjdeaabDoorAlG
namespace Go.Proofs.YtcokahccbjdeaabDoor
open Go.RowKit

theorem create_on {c : ChipS} {h : HeldS} (L : Live c) (hnone : loadM c.cells = none) (hk : h.ok) : On (c.prims (createOps c.cells h)).cells h := by
  have hc := create_len c.cells h hk
  obtain ⟨e1, m, hm, e2, e3, e4⟩ := create_cut (c := { c with armed := true, left := 100 }) (h := h) hnone L.len hk L.dead rfl 100 rfl
  obtain ⟨k1, k2, k3⟩ := prims_cut (c := { c with armed := true, left := 100 }) L.dead L.len rfl 100 rfl (createOps c.cells h) hc.2
  obtain ⟨a1, a2, a3⟩ := k2 (by omega)
  obtain ⟨L', b2, b3⟩ := L.prims (createOps c.cells h) hc.2
  have he : (({ c with armed := true, left := 100 } : ChipS).prims (createOps c.cells h)).cells = (c.prims (createOps c.cells h)).cells := by
    apply list_ext
    · rw [k1]; exact L'.len.symm
    · intro i _
      show (({ c with armed := true, left := 100 } : ChipS).prims (createOps c.cells h)).at i = (c.prims (createOps c.cells h)).at i
      rw [a2, b2]; rfl
  rcases e1 with h1 | ⟨_, h1⟩
  · rw [← he]; exact h1
  · rw [a1] at h1; cases h1
theorem format_on (t : ByteArray) (hv : ¬ verB t < 0) (h3 : verB t = 3) : On (formatM newChip t).1.cells (bareM t 3) := by
  unfold formatM
  rw [newChip_load]
  simp only [if_neg hv]
  rw [h3]
  exact create_on newChiphip_live newChip_load (ok_plain t 3 (by omega) (by omega))
set_option maxRecDepth 100000 in
set_option maxHeartbeats 100000 in
theorem madeO_any (w : World) (hT : TurnsAt w) :
    Calls Tryd.prog 15 #[] w fun e w' => ∃ b g t c, e = .returned (.tuple #[.pointer (some ⟨b, 0, none⟩), .string t]) ∧ Dv w' b g c ∧ Rel c ⟨true, bareM t 3⟩ ∧ On c.cells (bareM t 3) ∧ Image t 3 ∧ c.ops ≤ 64 ∧ w.heap.size ≤ b ∧ w.heap.size ≤ g ∧ Below w.heap.size w w' := by
  obtain ⟨m, hm, hM⟩ := first_made
  have hI := image_of_made hM
  obtain ⟨t, ht⟩ : ∃ t, t = mk (textOf 3 7 (runsOf m)) := ⟨_, rfl⟩
  rw [← ht] at hI
  have hf : ∀ s ∈ [firstSeg], s.fits = true := by
    intro s hs
    rw [List.mem_singleton] at hs
    subst hs
    decide
  have HP : ∀ wx : World, Calls Tryd.prog 40 #[.int .i64 3, .int .i64 7, .slice (some ⟨wx.heap.size, 0, none⟩) 1 1] (wx.alloc (.cells #[.int .i64 0, .int .i64 20, .string ⟨#[116, 104, 101, 32, 102, 105, 114, 115, 116, 32, 111, 110, 101]⟩] 77)) fun en w' => en = .returned (.tuple #[.string t, .int .i64 0]) ∧ Below wx.heap.size wx w' := by
    intro wx
    have hh := heap_alloc_new wx (.cells #[.int .i64 0, .int .i64 20, .string ⟨#[116, 104, 101, 32, 102, 105, 114, 115, 116, 32, 111, 110, 101]⟩] 77)
    have hS : SegsIn (wx.alloc (.cells #[.int .i64 0, .int .i64 20, .string ⟨#[116, 104, 101, 32, 102, 105, 114, 115, 116, 32, 111, 110, 101]⟩] 77)) (some ⟨wx.heap.size, 0, none⟩) [firstSeg] := by
      refine ⟨⟨wx.heap.size, 0, fun _ => rfl, ?_, fun _ => (Array.getElem?_eq_some_iff.1 hh).1⟩⟩
      intro i hi
      have : i = 0 := by simp at hi; omega
      subst this
      refine ⟨?_, ?_, ?_⟩ <;> (rw [cell_of_heap hh]; rfl)
    rw [ht]
    refine (pack_in _ 3 7 _ 1 [firstSeg] m hS hf hm (by simp) (by simp) hM).mono ?_
    rintro en w' ⟨rfl, hb⟩
    exact ⟨rfl, ((Below.refl _ _).alloc (Nat.le_refl _) _).trans (hb.mono (by simp))⟩
  have hF := newChip_rel.format t
  have hv : ¬ verB t < 0 := by have := hI.ver; omega
  have HFe : formatM newChip t = ((formatM newChip t).1, 0) := by
    have : (formatM newChip t).2 = 0 := by
      rw [hF.err]; unfold RefS.format; simp [hv]
    rw [← this]
  have hRr : RefS.format ⟨false, noHeld⟩ t = (⟨true, bareM t 3⟩, 0) := by
    unfold RefS.format; simp only [Bool.false_eq_true, if_false, if_neg hv]; rw [hI.ver]; rfl
  have hR : Rel (formatM newChip t).1 ⟨true, bareM t 3⟩ := by have := hF.rel; rw [hRr] at this; exact this
  have hON : On (formatM newChip t).1.cells (bareM t 3) := format_on t hv hI.ver
  obtain ⟨n, hn, hops⟩ := hF.ops
  have h0 : newChip.ops = 0 := rfl
  have HN := new_any w
  have hpos : 0 < w.heap.size := lt_of_cell hT.t0
  have HFM := fun wx (hd : Dv wx (w.heap.size + 1) w.heap.size newChip) => format_any wx (w.heap.size + 1) w.heap.size newChip t hI.lt (by omega) hd
  rw [HFe] at HFM
  generalize (formatM newChip t).1 = c1 at *
  have hne := ne_empty hI.ne
  clear hF HFe hRr hv ht hm hM hf
  go_enter Tryd.func15, Tryd.ntmps15
  go_wp2_with (first
    | (go_at_call 8; refine HN.mono ?_; rintro en w1 ⟨rfl, hc1, hb1, hs1⟩; clear hs1; have hs1 := hb1.size; have hT1 := hT.below hb1)
    | (go_at_call 40; refine (HP w1).mono ?_; rintro en w2 ⟨rfl, hb2⟩; have hV2 : Dv w2 (w.heap.size + 1) w.heap.size newChip := ⟨hc1.below hb2, hT1.below hb2, by omega, by omega⟩; have HO := open_none w2 _ _ newChip hV2 newChip_load)
    | (go_at_call 11; refine HO.mono ?_; rintro en w3 ⟨rfl, hb3⟩; have hV3 := hV2.below hb3)
    | (go_at_call 12; refine (HFM _ hV3).mono ?_; rintro en w4 ⟨rfl, hc4, ho4⟩))
  refine bodyPost_ret (results_tmp2 rfl _ _ _) rfl ⟨w.heap.size + 1, w.heap.size, t, c1, rfl, hV3.only hc4 ho4, hR, hON, hI, by omega, by omega, by omega, ?_⟩
  have k3 := (hb1.trans (hb2.mono hb1.size)).trans (hb3.mono (Nat.le_trans hb1.size hb2.size))
  exact k3.trans (ho4.below k3.size (fun x hx => by omega))
set_option maxRecDepth 100000 in
set_option maxHeartbeats 4000000 in
theorem launchedO_any (w : World) (B : Nat) (hT : TurnsAt w) (hB : B ≤ w.heap.size) (hB1 : 1 ≤ B) :
    Calls Tryd.prog 5 #[] w fun e w' => ∃ k b g q c t m, e = .returned (.pointer (some ⟨k, 0, none⟩)) ∧ Ship B w' k b g q c 0 ⟨.slice (some ⟨m, 0, none⟩) 1 1, ⟨#[]⟩, 0, 0, 3⟩ ∧ Rel c ⟨true, bareM t 3⟩ ∧ On c.cells (bareM t 3) ∧ Image t 3 ∧ c.ops ≤ 128 ∧ w'.heap[m]? = some (.cells #[.string t] 9 (0, 0)) ∧ B ≤ m ∧ Below B w w' := by
  have HM := madeO_any w hT
  go_enter Tryd.func5, Tryd.ntmps5
  go_wp2_with (first
    | (go_at_call 15; refine HM.mono ?_; rintro en w1 ⟨b, g, t, c, rfl, hV, hR, hON, hI, hop, h1, h2, hb1⟩))
  have hbw : Below w1.heap.size w1 ((w1.alloc (.cells #[.string t] 9)).alloc (.cells (shipC b (.pointer none) ⟨.slice (some ⟨w1.heap.size, 0, none⟩) 1 1, ⟨#[]⟩, 0, 0, 3⟩) 32)) := ((Below.refl _ _).alloc (Nat.le_refl _) _).alloc (by simp) _
  have hsz := hb1.size
  have hS : ShipW B ((w1.alloc (.cells #[.string t] 9)).alloc (.cells (shipC b (.pointer none) ⟨.slice (some ⟨w1.heap.size, 0, none⟩) 1 1, ⟨#[]⟩, 0, 0, 3⟩) 32)) (w1.heap.size + 1) b g c (.pointer none) ⟨.slice (some ⟨w1.heap.size, 0, none⟩) 1 1, ⟨#[]⟩, 0, 0, 3⟩ := ⟨heap_alloc2_new w1 _ _, hV.below hbw, by omega, by omega, by omega, hB1⟩
  have hm : ((w1.alloc (.cells #[.string t] 9)).alloc (.cells (shipC b (.pointer none) ⟨.slice (some ⟨w1.heap.size, 0, none⟩) 1 1, ⟨#[]⟩, 0, 0, 3⟩) 32)).heap[w1.heap.size]? = some (.cells #[.string t] 9 (0, 0)) := heap_alloc2_old w1 _ _
  refine (reopened_any _ B _ b g c _ _ _ hS (hR.yes rfl).1).mono ?_
  rintro en w3 ⟨rfl, ⟨b', g', q', S'⟩, F⟩
  obtain ⟨R', o'⟩ := moved_rel hR hV.chip.len
  go_wp2
  go_ret
  exact ⟨_, b', g', q', _, t, w1.heap.size, rfl, S', R', (by rw [(moved_ok c.cells hV.chip.len).2]; exact hON), hI, o', F.keep _ _ hm, by omega, (hb1.mono hB).trans ((hbw.mono (by omega)).trans F.bel)⟩
theorem Sea.below {B N M : Nat} {w w' : World} {k b g q : Nat} {c : ChipS} {run : Int} {L : Log} {G : List ByteArray} {h : HeldS} (A : Sea B N M w k b g q c run L G h) (hb : Below w.heap.size w w') : Sea B N M w' k b g q c run L G h ∧ FrS B w w' := by
  obtain ⟨S, F⟩ := A.S.below hb
  exact ⟨⟨S, own_keep A.row F, A.live, A.on, A.safe, A.rn, A.two, A.ops, A.len⟩, F⟩
theorem Mid.up' {B N M N' M' : Nat} {w : World} {k b g q : Nat} {c : ChipS} {run : Int} {L : Log} {G : List ByteArray} {h : HeldS} (A : Mid B N M w k b g q c run L G h) (h1 : N ≤ N') (h2 : M ≤ M') : Mid B N' M' w k b g q c run L G h :=
  ⟨A.S, A.row, A.on, A.safe, A.up, by have := A.ops; omega, by have := A.len; omega⟩
theorem Sea.mid {B N M : Nat} {w : World} {k b g q : Nat} {c : ChipS} {run : Int} {L : Log} {G : List ByteArray} {h : HeldS} (A : Sea B N M w k b g q c run L G h) : Mid B N M w k b g q c run L G h :=
  ⟨A.S, A.row, A.on, A.safe, fun _ => ⟨A.rn, A.two⟩, A.ops, A.len⟩
/-- The power is back. -/
theorem Mid.restored {B N M : Nat} {w w' : World} {k b g q : Nat} {c : ChipS} {run : Int} {L : Log} {G : List ByteArray} {h : HeldS} (m : Mid B N M w k b g q c run L G h) (hd : c.dead = false) (hc : ChipAt w' b g c.restore) (ho : Only (fun x => x = b ∨ x = g) w w') : Sea B N M w' k b g q c.restore run L G h ∧ FrS B w w' := by
  obtain ⟨S, F⟩ := m.S.chip hc ho
  obtain ⟨u1, u2⟩ := m.up hd
  exact ⟨⟨S, own_keep m.row F, ⟨rfl, rfl, m.S.s.dv.chip.len⟩, m.on, m.safe, u1, u2, m.ops, m.len⟩, F⟩
theorem Mid.reopened {B N M : Nat} {w w' : World} {k b g q : Nat} {c : ChipS} {run : Int} {L : Log} {G : List ByteArray} {h : HeldS} (m : Mid B N M w k b g q c run L G h) (hN : 128 ≤ N) (hc : ChipAt w' b g c.restore) (ho : Only (fun x => x = b ∨ x = g) w w') :
    Calls Tryd.prog 16 #[.pointer (some ⟨k, 0, none⟩)] w' fun e w2 => e = .returned (.bool true) ∧ (∃ b' g' q', Sea B N M w2 k b' g' q' (movedM c.cells) 0 { L with rn := 0 } G h) ∧ FrS B w w2 := by
  obtain ⟨S, F⟩ := m.S.chip hc ho
  have hlen := m.S.s.dv.chip.len
  refine (reopened_any w' B k b g _ _ L h S.s m.on.load.1).mono ?_
  rintro e w2 ⟨rfl, ⟨b', g', q', S'⟩, F'⟩
  have FF := F.trans F'
  obtain ⟨lv, ce⟩ := moved_ok c.cells hlen
  have ops := (prims_ops newChip (piecesN 0 c.cells 128)).1
  have h0 : newChip.ops = 0 := rfl
  have hl : (piecesN 0 c.cells 128).length = 128 := by simp [piecesN]
  refine ⟨rfl, ⟨b', g', q', S', own_keep m.row FF, lv, by rw [ce]; exact m.on, m.safe, rfl, fun e => by omega, ?_, m.len⟩, FF⟩
  show (newChip.prims (piecesN 0 c.cells 128)).ops ≤ _
  omega
def SeaE (B N M : Nat) (w : World) (k : Nat) : Prop := ∃ b g q c run L G h, Sea B N M w k b g q c run L G h
def MidE (B N M : Nat) (w : World) (k : Nat) : Prop := ∃ b g q c run L G h, Mid B N M w k b g q c run L G h
theorem op_takes (w : World) (B N M k : Nat) (o : StepS) (hok : o.ok) (hN : N ≤ 4611686018427290000) (A : SeaE B N M w k) : Calls Tryd.prog 17 #[.pointer (some ⟨k, 0, none⟩), o.v] w fun e w' => e = .returned (.bool true) ∧ MidE B (N + 9000) (M + 1) w' k ∧ Below B w w' := by
  obtain ⟨b, g, q, c, run, L, G, h, A⟩ := A
  refine (takesK_any w B N M k b g q c run L G h o hok hN A).mono ?_
  rintro e w' ⟨rfl, ⟨c', L', h', m⟩, F⟩
  exact ⟨rfl, ⟨_, _, _, _, _, _, _, _, m.up' (by omega) (by omega)⟩, F.bel⟩
theorem op_boot (w : World) (B N M k : Nat) (o : StepS) (hok : o.ok) (hN : N ≤ 4611686018427290000) (hM : M < 8000000000000) (A : SeaE B N M w k) : Calls Tryd.prog 7 #[.pointer (some ⟨k, 0, none⟩), o.v] w fun e w' => e = .returned (.bool true) ∧ MidE B (N + 9000) (M + 1) w' k ∧ Below B w w' := by
  obtain ⟨b, g, q, c, run, L, G, h, A⟩ := A
  refine (bootK_any w B N M k b g q c run L G h o hok (by omega) hM A).mono ?_
  rintro e w' ⟨rfl, ⟨c', run', L', G', h', m, _⟩, F⟩
  exact ⟨rfl, ⟨_, _, _, _, _, _, _, _, m.up' (by omega) (by omega)⟩, F.bel⟩
theorem op_confirms (w : World) (B N M k : Nat) (o : StepS) (hok : o.ok) (hN : N ≤ 4611686018427290000) (hM : M < 8000000000000) (A : SeaE B N M w k) : Calls Tryd.prog 18 #[.pointer (some ⟨k, 0, none⟩), o.v] w fun e w' => e = .returned (.bool true) ∧ MidE B (N + 9000) (M + 1) w' k ∧ Below B w w' := by
  obtain ⟨b, g, q, c, run, L, G, h, A⟩ := A
  refine (confirms_any w B N M k b g q c run L G h o hok (by omega) hM A).mono ?_
  rintro e w' ⟨rfl, ⟨c', run', L', G', h', m⟩, F⟩
  exact ⟨rfl, ⟨_, _, _, _, _, _, _, _, m.up' (by omega) (by omega)⟩, F⟩
theorem op_raises (w : World) (B N M k : Nat) (o : StepS) (hok : o.ok) (hN : N ≤ 4611686018427290000) (A : SeaE B N M w k) : Calls Tryd.prog 19 #[.pointer (some ⟨k, 0, none⟩), o.v] w fun e w' => e = .returned (.bool true) ∧ MidE B (N + 9000) (M + 1) w' k ∧ Below B w w' := by
  obtain ⟨b, g, q, c, run, L, G, h, A⟩ := A
  refine (raises_any w B N M k b g q c run L G h o hok (by omega) A).mono ?_
  rintro e w' ⟨rfl, ⟨c', h', m⟩, F⟩
  exact ⟨rfl, ⟨_, _, _, _, _, _, _, _, m.up' (by omega) (by omega)⟩, F.bel⟩
theorem op_drops (w : World) (B N M k : Nat) (o : StepS) (hok : o.ok) (hN : N ≤ 4611686018427290000) (A : SeaE B N M w k) : Calls Tryd.prog 20 #[.pointer (some ⟨k, 0, none⟩), o.v] w fun e w' => e = .returned (.bool true) ∧ MidE B (N + 9000) (M + 1) w' k ∧ Below B w w' := by
  obtain ⟨b, g, q, c, run, L, G, h, A⟩ := A
  refine (drops_any w B N M k b g q c run L G h o hok (by omega) A).mono ?_
  rintro e w' ⟨rfl, ⟨c', run', L', h', m⟩, F⟩
  exact ⟨rfl, ⟨_, _, _, _, _, _, _, _, m.up' (by omega) (by omega)⟩, F.bel⟩
theorem op_opens (w : World) (B N M k : Nat) (o : StepS) (hok : o.ok) (A : SeaE B N M w k) : Calls Tryd.prog 21 #[.pointer (some ⟨k, 0, none⟩), o.v] w fun e w' => e = .returned (.bool true) ∧ MidE B (N + 9000) (M + 1) w' k ∧ Below B w w' := by
  obtain ⟨b, g, q, c, run, L, G, h, A⟩ := A
  refine (opensK_any w B N M k b g q c run L G h o hok A).mono ?_
  rintro e w' ⟨rfl, ⟨q', c', L', m⟩, F⟩
  exact ⟨rfl, ⟨_, _, _, _, _, _, _, _, m.up' (by omega) (by omega)⟩, F.bel⟩
theorem SeaE.below {B N M : Nat} {w w' : World} {k : Nat} (A : SeaE B N M w k) (hb : Below w.heap.size w w') : SeaE B N M w' k ∧ FrS B w w' := by
  obtain ⟨b, g, q, c, run, L, G, h, A⟩ := A
  exact ⟨⟨b, g, q, c, run, L, G, h, (A.below hb).1⟩, (A.below hb).2⟩
set_option maxRecDepth 100000 in
set_option maxHeartbeats 2000000 in
theorem stepK_any (w : World) (B N M k : Nat) (o : StepS) (hok : o.ok) (h128 : 128 ≤ N) (hN : N ≤ 4611686018427290000) (hM : M < 8000000000000) (A : SeaE B N M w k) :
    Calls Tryd.prog 6 #[.pointer (some ⟨k, 0, none⟩), o.v] w fun e w' => e = .returned (.bool true) ∧ SeaE B (N + 9000) (M + 1) w' k ∧ Below B w w' := by
  have hb1 : ∀ x, Below w.heap.size w (w.alloc x) := fun x => (Below.refl _ _).alloc (Nat.le_refl _) x
  have hA1 := fun x => (A.below (hb1 x)).1
  have hF1 := fun x => (A.below (hb1 x)).2
  have T1 := fun x => op_takes (w.alloc x) B N M k o hok hN (hA1 x)
  have T2 := fun x => op_boot (w.alloc x) B N M k o hok hN hM (hA1 x)
  have T3 := fun x => op_confirms (w.alloc x) B N M k o hok hN hM (hA1 x)
  have T4 := fun x => op_raises (w.alloc x) B N M k o hok hN (hA1 x)
  have T5 := fun x => op_drops (w.alloc x) B N M k o hok hN (hA1 x)
  have T6 := fun x => op_opens (w.alloc x) B N M k o hok (hA1 x)
  obtain ⟨kd, a, ct, tn⟩ := o
  simp only [StepS.v] at *
  by_cases h1 : kd = 1
  · subst h1
    have TT := T1
    clear T1 T2 T3 T4 T5 T6 hA1 A
    go_enter Tryd.func6, Tryd.ntmps6
    go_wp2_with fail
    refine (TT _).mono ?_
    rintro en w1 ⟨rfl, hm, hbm⟩
    have hbel := (hF1 _).bel.trans hbm
    obtain ⟨b, g, q, c1, run1, L1, G1, h1, m1⟩ := hm
    have HD := dead_any w1 b g c1 m1.S.s.dv.chip
    have HR := restore_any w1 b g c1 m1.S.s.dv.chip
    have d0 := (ship_cells m1.S.s.hk).1
    cases hd : c1.dead with
    | true =>
      rw [hd] at HD
      go_wp2_with (first
        | (go_at_call 22; refine HD.mono ?_; rintro en w2 ⟨rfl, hw2⟩; have hw3 := hw2.symm; clear hw2; subst hw3)
        | (go_at_call 23; refine HR.mono ?_; rintro en w3 ⟨rfl, hc3, ho3, _⟩)
        | (go_at_call 16; refine (m1.reopened (by omega) hc3 ho3).mono ?_; rintro en w4 ⟨rfl, ⟨b4, g4, q4, A4⟩, F4⟩)
        | (go_at_call 24; refine (proud_any w4 B _ _ k b4 g4 q4 _ _ _ G1 h1 A4).mono ?_; rintro en w5 ⟨rfl, A5, F5⟩))
      go_ret
      exact ⟨rfl, ⟨_, _, _, _, _, _, _, _, A5⟩, hbel.trans (F4.bel.trans F5.bel)⟩
    | false =>
      rw [hd] at HD
      go_wp2_with (first
        | (go_at_call 22; refine HD.mono ?_; rintro en w2 ⟨rfl, hw2⟩; have hw3 := hw2.symm; clear hw2; subst hw3)
        | (go_at_call 23; refine HR.mono ?_; rintro en w3 ⟨rfl, hc3, ho3, _⟩; obtain ⟨A4, F4⟩ := m1.restored hd hc3 ho3)
        | (go_at_call 24; refine (proud_any w3 B _ _ k b g q _ _ _ G1 h1 A4).mono ?_; rintro en w5 ⟨rfl, A5, F5⟩))
      go_ret
      exact ⟨rfl, ⟨_, _, _, _, _, _, _, _, A5⟩, hbel.trans (F4.bel.trans F5.bel)⟩
  by_cases h2 : kd = 2
  · subst h2
    have TT := T2
    clear T1 T2 T3 T4 T5 T6 hA1 A
    go_enter Tryd.func6, Tryd.ntmps6
    go_wp2_with fail
    refine (TT _).mono ?_
    rintro en w1 ⟨rfl, hm, hbm⟩
    have hbel := (hF1 _).bel.trans hbm
    obtain ⟨b, g, q, c1, run1, L1, G1, h1, m1⟩ := hm
    have HD := dead_any w1 b g c1 m1.S.s.dv.chip
    have HR := restore_any w1 b g c1 m1.S.s.dv.chip
    have d0 := (ship_cells m1.S.s.hk).1
    cases hd : c1.dead with
    | true =>
      rw [hd] at HD
      go_wp2_with (first
        | (go_at_call 22; refine HD.mono ?_; rintro en w2 ⟨rfl, hw2⟩; have hw3 := hw2.symm; clear hw2; subst hw3)
        | (go_at_call 23; refine HR.mono ?_; rintro en w3 ⟨rfl, hc3, ho3, _⟩)
        | (go_at_call 16; refine (m1.reopened (by omega) hc3 ho3).mono ?_; rintro en w4 ⟨rfl, ⟨b4, g4, q4, A4⟩, F4⟩)
        | (go_at_call 24; refine (proud_any w4 B _ _ k b4 g4 q4 _ _ _ G1 h1 A4).mono ?_; rintro en w5 ⟨rfl, A5, F5⟩))
      go_ret
      exact ⟨rfl, ⟨_, _, _, _, _, _, _, _, A5⟩, hbel.trans (F4.bel.trans F5.bel)⟩
    | false =>
      rw [hd] at HD
      go_wp2_with (first
        | (go_at_call 22; refine HD.mono ?_; rintro en w2 ⟨rfl, hw2⟩; have hw3 := hw2.symm; clear hw2; subst hw3)
        | (go_at_call 23; refine HR.mono ?_; rintro en w3 ⟨rfl, hc3, ho3, _⟩; obtain ⟨A4, F4⟩ := m1.restored hd hc3 ho3)
        | (go_at_call 24; refine (proud_any w3 B _ _ k b g q _ _ _ G1 h1 A4).mono ?_; rintro en w5 ⟨rfl, A5, F5⟩))
      go_ret
      exact ⟨rfl, ⟨_, _, _, _, _, _, _, _, A5⟩, hbel.trans (F4.bel.trans F5.bel)⟩
  by_cases h3 : kd = 3
  · subst h3
    have TT := T3
    clear T1 T2 T3 T4 T5 T6 hA1 A
    go_enter Tryd.func6, Tryd.ntmps6
    go_wp2_with fail
    refine (TT _).mono ?_
    rintro en w1 ⟨rfl, hm, hbm⟩
    have hbel := (hF1 _).bel.trans hbm
    obtain ⟨b, g, q, c1, run1, L1, G1, h1, m1⟩ := hm
    have HD := dead_any w1 b g c1 m1.S.s.dv.chip
    have HR := restore_any w1 b g c1 m1.S.s.dv.chip
    have d0 := (ship_cells m1.S.s.hk).1
    cases hd : c1.dead with
    | true =>
      rw [hd] at HD
      go_wp2_with (first
        | (go_at_call 22; refine HD.mono ?_; rintro en w2 ⟨rfl, hw2⟩; have hw3 := hw2.symm; clear hw2; subst hw3)
        | (go_at_call 23; refine HR.mono ?_; rintro en w3 ⟨rfl, hc3, ho3, _⟩)
        | (go_at_call 16; refine (m1.reopened (by omega) hc3 ho3).mono ?_; rintro en w4 ⟨rfl, ⟨b4, g4, q4, A4⟩, F4⟩)
        | (go_at_call 24; refine (proud_any w4 B _ _ k b4 g4 q4 _ _ _ G1 h1 A4).mono ?_; rintro en w5 ⟨rfl, A5, F5⟩))
      go_ret
      exact ⟨rfl, ⟨_, _, _, _, _, _, _, _, A5⟩, hbel.trans (F4.bel.trans F5.bel)⟩
    | false =>
      rw [hd] at HD
      go_wp2_with (first
        | (go_at_call 22; refine HD.mono ?_; rintro en w2 ⟨rfl, hw2⟩; have hw3 := hw2.symm; clear hw2; subst hw3)
        | (go_at_call 23; refine HR.mono ?_; rintro en w3 ⟨rfl, hc3, ho3, _⟩; obtain ⟨A4, F4⟩ := m1.restored hd hc3 ho3)
        | (go_at_call 24; refine (proud_any w3 B _ _ k b g q _ _ _ G1 h1 A4).mono ?_; rintro en w5 ⟨rfl, A5, F5⟩))
      go_ret
      exact ⟨rfl, ⟨_, _, _, _, _, _, _, _, A5⟩, hbel.trans (F4.bel.trans F5.bel)⟩
  by_cases h4 : kd = 4
  · subst h4
    have TT := T4
    clear T1 T2 T3 T4 T5 T6 hA1 A
    go_enter Tryd.func6, Tryd.ntmps6
    go_wp2_with fail
    refine (TT _).mono ?_
    rintro en w1 ⟨rfl, hm, hbm⟩
    have hbel := (hF1 _).bel.trans hbm
    obtain ⟨b, g, q, c1, run1, L1, G1, h1, m1⟩ := hm
    have HD := dead_any w1 b g c1 m1.S.s.dv.chip
    have HR := restore_any w1 b g c1 m1.S.s.dv.chip
    have d0 := (ship_cells m1.S.s.hk).1
    cases hd : c1.dead with
    | true =>
      rw [hd] at HD
      go_wp2_with (first
        | (go_at_call 22; refine HD.mono ?_; rintro en w2 ⟨rfl, hw2⟩; have hw3 := hw2.symm; clear hw2; subst hw3)
        | (go_at_call 23; refine HR.mono ?_; rintro en w3 ⟨rfl, hc3, ho3, _⟩)
        | (go_at_call 16; refine (m1.reopened (by omega) hc3 ho3).mono ?_; rintro en w4 ⟨rfl, ⟨b4, g4, q4, A4⟩, F4⟩)
        | (go_at_call 24; refine (proud_any w4 B _ _ k b4 g4 q4 _ _ _ G1 h1 A4).mono ?_; rintro en w5 ⟨rfl, A5, F5⟩))
      go_ret
      exact ⟨rfl, ⟨_, _, _, _, _, _, _, _, A5⟩, hbel.trans (F4.bel.trans F5.bel)⟩
    | false =>
      rw [hd] at HD
      go_wp2_with (first
        | (go_at_call 22; refine HD.mono ?_; rintro en w2 ⟨rfl, hw2⟩; have hw3 := hw2.symm; clear hw2; subst hw3)
        | (go_at_call 23; refine HR.mono ?_; rintro en w3 ⟨rfl, hc3, ho3, _⟩; obtain ⟨A4, F4⟩ := m1.restored hd hc3 ho3)
        | (go_at_call 24; refine (proud_any w3 B _ _ k b g q _ _ _ G1 h1 A4).mono ?_; rintro en w5 ⟨rfl, A5, F5⟩))
      go_ret
      exact ⟨rfl, ⟨_, _, _, _, _, _, _, _, A5⟩, hbel.trans (F4.bel.trans F5.bel)⟩
  by_cases h5 : kd = 5
  · subst h5
    have TT := T5
    clear T1 T2 T3 T4 T5 T6 hA1 A
    go_enter Tryd.func6, Tryd.ntmps6
    go_wp2_with fail
    refine (TT _).mono ?_
    rintro en w1 ⟨rfl, hm, hbm⟩
    have hbel := (hF1 _).bel.trans hbm
    obtain ⟨b, g, q, c1, run1, L1, G1, h1, m1⟩ := hm
    have HD := dead_any w1 b g c1 m1.S.s.dv.chip
    have HR := restore_any w1 b g c1 m1.S.s.dv.chip
    have d0 := (ship_cells m1.S.s.hk).1
    cases hd : c1.dead with
    | true =>
      rw [hd] at HD
      go_wp2_with (first
        | (go_at_call 22; refine HD.mono ?_; rintro en w2 ⟨rfl, hw2⟩; have hw3 := hw2.symm; clear hw2; subst hw3)
        | (go_at_call 23; refine HR.mono ?_; rintro en w3 ⟨rfl, hc3, ho3, _⟩)
        | (go_at_call 16; refine (m1.reopened (by omega) hc3 ho3).mono ?_; rintro en w4 ⟨rfl, ⟨b4, g4, q4, A4⟩, F4⟩)
        | (go_at_call 24; refine (proud_any w4 B _ _ k b4 g4 q4 _ _ _ G1 h1 A4).mono ?_; rintro en w5 ⟨rfl, A5, F5⟩))
      go_ret
      exact ⟨rfl, ⟨_, _, _, _, _, _, _, _, A5⟩, hbel.trans (F4.bel.trans F5.bel)⟩
    | false =>
      rw [hd] at HD
      go_wp2_with (first
        | (go_at_call 22; refine HD.mono ?_; rintro en w2 ⟨rfl, hw2⟩; have hw3 := hw2.symm; clear hw2; subst hw3)
        | (go_at_call 23; refine HR.mono ?_; rintro en w3 ⟨rfl, hc3, ho3, _⟩; obtain ⟨A4, F4⟩ := m1.restored hd hc3 ho3)
        | (go_at_call 24; refine (proud_any w3 B _ _ k b g q _ _ _ G1 h1 A4).mono ?_; rintro en w5 ⟨rfl, A5, F5⟩))
      go_ret
      exact ⟨rfl, ⟨_, _, _, _, _, _, _, _, A5⟩, hbel.trans (F4.bel.trans F5.bel)⟩
  by_cases h6 : kd = 6
  · subst h6
    have TT := T6
    clear T1 T2 T3 T4 T5 T6 hA1 A
    go_enter Tryd.func6, Tryd.ntmps6
    go_wp2_with fail
    refine (TT _).mono ?_
    rintro en w1 ⟨rfl, hm, hbm⟩
    have hbel := (hF1 _).bel.trans hbm
    obtain ⟨b, g, q, c1, run1, L1, G1, h1, m1⟩ := hm
    have HD := dead_any w1 b g c1 m1.S.s.dv.chip
    have HR := restore_any w1 b g c1 m1.S.s.dv.chip
    have d0 := (ship_cells m1.S.s.hk).1
    cases hd : c1.dead with
    | true =>
      rw [hd] at HD
      go_wp2_with (first
        | (go_at_call 22; refine HD.mono ?_; rintro en w2 ⟨rfl, hw2⟩; have hw3 := hw2.symm; clear hw2; subst hw3)
        | (go_at_call 23; refine HR.mono ?_; rintro en w3 ⟨rfl, hc3, ho3, _⟩)
        | (go_at_call 16; refine (m1.reopened (by omega) hc3 ho3).mono ?_; rintro en w4 ⟨rfl, ⟨b4, g4, q4, A4⟩, F4⟩)
        | (go_at_call 24; refine (proud_any w4 B _ _ k b4 g4 q4 _ _ _ G1 h1 A4).mono ?_; rintro en w5 ⟨rfl, A5, F5⟩))
      go_ret
      exact ⟨rfl, ⟨_, _, _, _, _, _, _, _, A5⟩, hbel.trans (F4.bel.trans F5.bel)⟩
    | false =>
      rw [hd] at HD
      go_wp2_with (first
        | (go_at_call 22; refine HD.mono ?_; rintro en w2 ⟨rfl, hw2⟩; have hw3 := hw2.symm; clear hw2; subst hw3)
        | (go_at_call 23; refine HR.mono ?_; rintro en w3 ⟨rfl, hc3, ho3, _⟩; obtain ⟨A4, F4⟩ := m1.restored hd hc3 ho3)
        | (go_at_call 24; refine (proud_any w3 B _ _ k b g q _ _ _ G1 h1 A4).mono ?_; rintro en w5 ⟨rfl, A5, F5⟩))
      go_ret
      exact ⟨rfl, ⟨_, _, _, _, _, _, _, _, A5⟩, hbel.trans (F4.bel.trans F5.bel)⟩
  have e1 : (kd == 1) = false := by simp [h1]
  have e2 : (kd == 2) = false := by simp [h2]
  have e3 : (kd == 3) = false := by simp [h3]
  have e4 : (kd == 4) = false := by simp [h4]
  have e5 : (kd == 5) = false := by simp [h5]
  have e6 : (kd == 6) = false := by simp [h6]
  obtain ⟨w1, hw1⟩ : ∃ w1, w1 = w.alloc (.cells #[.int .i64 kd, .int .i64 a, .int .i64 ct, .string tn] 27) := ⟨_, rfl⟩
  have hm : MidE B (N + 9000) (M + 1) w1 k := by
    obtain ⟨b, g, q, c, run, L, G, h, A1⟩ := hA1 (.cells #[.int .i64 kd, .int .i64 a, .int .i64 ct, .string tn] 27)
    rw [hw1]
    exact ⟨b, g, q, c, run, L, G, h, A1.mid.up' (by omega) (by omega)⟩
  have hbel : Below B w w1 := by rw [hw1]; exact (hF1 _).bel
  clear T1 T2 T3 T4 T5 T6 hA1 A hF1 hb1
  go_enter Tryd.func6, Tryd.ntmps6
  go_upto_region 15 with fail
  rw [← hw1]
  clear hw1
  obtain ⟨b, g, q, c1, run1, L1, G1, h1, m1⟩ := hm
  have HD := dead_any w1 b g c1 m1.S.s.dv.chip
  have HR := restore_any w1 b g c1 m1.S.s.dv.chip
  have d0 := (ship_cells m1.S.s.hk).1
  cases hd : c1.dead with
  | true =>
    rw [hd] at HD
    go_wp2_with (first
      | (go_at_call 22; refine HD.mono ?_; rintro en w2 ⟨rfl, hw2⟩; have hw3 := hw2.symm; clear hw2; subst hw3)
      | (go_at_call 23; refine HR.mono ?_; rintro en w3 ⟨rfl, hc3, ho3, _⟩)
      | (go_at_call 16; refine (m1.reopened (by omega) hc3 ho3).mono ?_; rintro en w4 ⟨rfl, ⟨b4, g4, q4, A4⟩, F4⟩)
      | (go_at_call 24; refine (proud_any w4 B _ _ k b4 g4 q4 _ _ _ G1 h1 A4).mono ?_; rintro en w5 ⟨rfl, A5, F5⟩))
    go_ret
    exact ⟨rfl, ⟨_, _, _, _, _, _, _, _, A5⟩, hbel.trans (F4.bel.trans F5.bel)⟩
  | false =>
    rw [hd] at HD
    go_wp2_with (first
      | (go_at_call 22; refine HD.mono ?_; rintro en w2 ⟨rfl, hw2⟩; have hw3 := hw2.symm; clear hw2; subst hw3)
      | (go_at_call 23; refine HR.mono ?_; rintro en w3 ⟨rfl, hc3, ho3, _⟩; obtain ⟨A4, F4⟩ := m1.restored hd hc3 ho3)
      | (go_at_call 24; refine (proud_any w3 B _ _ k b g q _ _ _ G1 h1 A4).mono ?_; rintro en w5 ⟨rfl, A5, F5⟩))
    go_ret
    exact ⟨rfl, ⟨_, _, _, _, _, _, _, _, A5⟩, hbel.trans (F4.bel.trans F5.bel)⟩
end Go.Proofs.YtcokahccbjdeaabDoor
