import Derived.Test.YtcokahccbjdeaabDoorCuts
namespace Go.Proofs.YtcokahccbjdeaabDoor
open Go.RowKit

/-- The power is on; it may be cut at an operation to come. -/
structure Up (c : ChipS) : Prop where
  dead : c.dead = false
  len : c.cells.length = 1024
  left : c.armed = true → 0 ≤ c.left
theorem prims_armed {c : ChipS} (hd : c.dead = false) (hl : c.cells.length = 1024) (ha : c.armed = true) (n : Nat) (hn : c.left = n) (l : List Prim) (hok : ∀ p ∈ l, p.ok) (hle : l.length ≤ n) :
    (c.prims l).armed = true ∧ (c.prims l).left = ((n - l.length : Nat) : Int) := by
  induction l generalizing c n with
  | nil => exact ⟨ha, by simp [ChipS.prims_nil, hn]⟩
  | cons p l ih =>
    have hle' : l.length + 1 ≤ n := by simpa using hle
    obtain ⟨q1, _, _, q4, q5, _, q7⟩ := prim_full hd hl (Or.inr (by rw [hn]; omega)) p (hok p (List.mem_cons_self))
    rw [ChipS.prims_cons]
    obtain ⟨r1, r2⟩ := ih q4 q1 (q5.trans ha) (n - 1) (by rw [q7 ha, hn]; omega) (fun x hx => hok x (List.mem_cons_of_mem _ hx)) (by omega)
    refine ⟨r1, r2.trans ?_⟩
    simp only [List.length_cons]
    omega
/-- What a call does to a chip that holds h0, and is to hold h1: it is done, or the power was cut in it. -/
structure Did (c : ChipS) (h0 : HeldS) (c' : ChipS) (h1 : HeldS) : Prop where
  ops : ∃ m : Nat, m ≤ 64 ∧ c'.ops = c.ops + m
  len : c'.cells.length = 1024
  fin : (Up c' ∧ On c'.cells h1) ∨ (c'.dead = true ∧ (On c'.cells h1 ∨ On c'.cells h0))
  calm : c.armed = false → c'.dead = false ∧ c'.armed = false
theorem Did.same {c : ChipS} {h : HeldS} (U : Up c) (o : On c.cells h) : Did c h c h := ⟨⟨0, by omega, by simp⟩, U.len, Or.inl ⟨U, o⟩, fun e => ⟨U.dead, e⟩⟩
theorem Did.save {c : ChipS} {h0 x : HeldS} (U : Up c) (o : On c.cells h0) (hk : x.ok) : Did c h0 (c.prims (saveOps c.cells x)) x := by
  have hL := hk.len
  cases ha : c.armed with
  | false =>
    obtain ⟨s, t, oa⟩ := o
    have hs := oa.s2
    have hso : saveOps c.cells x = writeOps (1 - s) (nextT t) x := by unfold saveOps; rw [oa.newest]
    have Lv : Live c := ⟨U.dead, ha, U.len⟩
    obtain ⟨L', a', o'⟩ := Lv.prims (writeOps (1 - s) (nextT t) x) (writeOps_ok _ _ _ (by omega) (by omega))
    have hwl := writeOps_len (1 - s) (nextT t) x hk
    rw [hso]
    exact ⟨⟨_, by omega, o'⟩, L'.len, Or.inl ⟨⟨L'.dead, L'.len, fun e => by rw [L'.armed] at e; cases e⟩, 1 - s, nextT t, oa.wrote hk L'.len a'⟩, fun _ => ⟨L'.dead, L'.armed⟩⟩
  | true =>
    have h0' := U.left ha
    obtain ⟨n, hn⟩ : ∃ n : Nat, c.left = n := ⟨c.left.toNat, by omega⟩
    obtain ⟨e1, m, hm, e2, e3, e4⟩ := save_cut o hk U.dead ha n hn
    obtain ⟨s, t, oa⟩ := o
    have hs := oa.s2
    have hso : saveOps c.cells x = writeOps (1 - s) (nextT t) x := by unfold saveOps; rw [oa.newest]
    have hwok : ∀ p ∈ saveOps c.cells x, p.ok := by rw [hso]; exact writeOps_ok _ _ _ (by omega) (by omega)
    obtain ⟨k1, k2, k3⟩ := prims_cut U.dead U.len ha n hn (saveOps c.cells x) hwok
    refine ⟨⟨m, hm, e2⟩, k1, ?_, fun e => by rw [ha] at e; cases e⟩
    cases hd : (c.prims (saveOps c.cells x)).dead with
    | false =>
      left
      have hon : On (c.prims (saveOps c.cells x)).cells x := by
        rcases e1 with h | h
        · exact h
        · rw [hd] at h; cases h.2
      have hle : (saveOps c.cells x).length ≤ n := by
        by_cases hh : (saveOps c.cells x).length ≤ n
        · exact hh
        · have := (k3 (by omega)).1; rw [hd] at this; cases this
      obtain ⟨q1, q2⟩ := prims_armed U.dead U.len ha n hn (saveOps c.cells x) hwok hle
      exact ⟨⟨hd, k1, fun _ => by rw [q2]; omega⟩, hon⟩
    | true =>
      right
      refine ⟨rfl, ?_⟩
      rcases e1 with h | h
      · exact Or.inl h
      · exact Or.inr h.1
/-- The shape of a call's answer: as the document's, and saved if anything is changed. -/
structure Shape (c : ChipS) (h0 : HeldS) (a : ChipS × Int) (b : RefS × Int) : Prop where
  err : a.2 = b.2
  how : (a.1 = c ∧ b.1 = ⟨true, h0⟩) ∨ (∃ x : HeldS, x.ok ∧ a.1 = c.prims (saveOps c.cells x) ∧ b.1 = ⟨true, x⟩)
theorem Shape.did {c : ChipS} {h0 : HeldS} {a : ChipS × Int} {b : RefS × Int} (s : Shape c h0 a b) (U : Up c) (o : On c.cells h0) : Did c h0 a.1 b.1.h ∧ b.1.made = true := by
  rcases s.how with ⟨e1, e2⟩ | ⟨x, hx, e1, e2⟩
  · rw [e1, e2]; exact ⟨Did.same U o, rfl⟩
  · rw [e1, e2]; exact ⟨Did.save U o hx, rfl⟩
theorem Shape.same {c : ChipS} {h0 : HeldS} (e : Int) : Shape c h0 (c, e) (⟨true, h0⟩, e) := ⟨rfl, Or.inl ⟨rfl, rfl⟩⟩
theorem Shape.saved {c : ChipS} {h0 : HeldS} (x : HeldS) (hx : x.ok) (e : Int) : Shape c h0 (c.prims (saveOps c.cells x), e) (⟨true, x⟩, e) := ⟨rfl, Or.inr ⟨x, hx, rfl, rfl⟩⟩
theorem shape_stage {c : ChipS} {h0 : HeldS} (hl : loadM c.cells = some h0) (k : h0.ok) (n : Int) : Shape c h0 (stageM c n) (RefS.stage ⟨true, h0⟩ n) := by
  unfold stageM RefS.stage
  by_cases hn : n < 1 ∨ 120 < n
  · rw [if_pos hn, if_pos hn]; exact Shape.same 9
  · rw [if_neg hn, if_neg hn, hl]
    simp only
    by_cases ht : h0.trial.size ≠ 0
    · rw [if_pos ht, if_pos ht]; exact Shape.same 10
    · rw [if_neg ht, if_neg ht]
      obtain ⟨e1, e2⟩ := k.noTrial (by omega)
      have E : (⟨h0.good, h0.floor, h0.trial, h0.tries, n, tx []⟩ : HeldS) = ⟨h0.good, h0.floor, tx [], 0, n, tx []⟩ := by rw [e1, e2]
      show Shape c h0 (c.prims (saveOps c.cells ⟨h0.good, h0.floor, tx [], 0, n, tx []⟩), 0) (⟨true, ⟨h0.good, h0.floor, h0.trial, h0.tries, n, tx []⟩⟩, 0)
      rw [E]
      refine Shape.saved ⟨h0.good, h0.floor, tx [], 0, n, tx []⟩ ⟨?_, k.fl, Int.le_refl _, by show 0 ≤ n; omega, fun _ => rfl, fun _ => rfl⟩ 0
      have hg := k.good
      simp only [HeldS.lawful, hg]
      have : 0 < n := by omega
      simp [this, tx_size]; omega
theorem shape_write {c : ChipS} {h0 : HeldS} (hl : loadM c.cells = some h0) (k : h0.ok) (d : ByteArray) : Shape c h0 (writeM c d) (RefS.write ⟨true, h0⟩ d) := by
  unfold writeM RefS.write
  rw [hl]
  simp only
  by_cases hs : h0.size = 0
  · rw [if_pos hs, if_pos hs]; exact Shape.same 11
  · rw [if_neg hs, if_neg hs]
    by_cases hd : d.size = 0 ∨ 8 < d.size ∨ h0.size < h0.got.size + d.size
    · rw [if_pos hd, if_pos (by omega)]; exact Shape.same 9
    · rw [if_neg hd, if_neg (by omega)]
      have hz := k.sz
      refine Shape.saved ⟨h0.good, h0.floor, h0.trial, h0.tries, h0.size, h0.got ++ d⟩ ⟨?_, k.fl, k.tr, k.sz, k.a, fun e => absurd e hs⟩ 0
      have hg := k.good
      have hlw := k.law
      simp only [HeldS.lawful, Bool.and_eq_true, if_pos (show 0 < h0.size by omega), decide_eq_true_eq] at hlw
      simp only [HeldS.lawful, hg, if_pos (show 0 < h0.size by omega), Bool.and_eq_true, decide_eq_true_eq, ByteArray.size_append]
      refine ⟨rfl, ⟨hlw.2.1.1, ?_⟩, hlw.2.2⟩
      omega
theorem shape_activate {c : ChipS} {h0 : HeldS} (hl : loadM c.cells = some h0) (k : h0.ok) : Shape c h0 (activM c) (RefS.activate ⟨true, h0⟩) := by
  unfold activM RefS.activate
  rw [hl]
  simp only
  by_cases h1 : h0.size = 0
  · rw [if_pos h1, if_pos h1]; exact Shape.same 11
  rw [if_neg h1, if_neg h1]
  by_cases h2 : (h0.got.size : Int) < h0.size
  · rw [if_pos h2, if_pos h2]; exact Shape.same 12
  rw [if_neg h2, if_neg h2]
  by_cases h3 : verB h0.got < 0
  · rw [if_pos h3, if_pos h3]; exact Shape.same 6
  rw [if_neg h3, if_neg h3]
  by_cases h4 : verB h0.got < h0.floor
  · rw [if_pos h4, if_pos h4]; exact Shape.same 13
  rw [if_neg h4, if_neg h4]
  have hg := k.good
  refine Shape.saved ⟨h0.good, h0.floor, h0.got, 3, 0, tx []⟩ ⟨?_, k.fl, by show (0 : Int) ≤ 3; omega, Int.le_refl _, fun e => by simp at e, fun _ => rfl⟩ 0
  simp only [HeldS.lawful, hg]
  have : ¬ h0.got.size = 0 := by have := k.sz; omega
  simp [this]; omega
theorem shape_boot {c : ChipS} {h0 : HeldS} (hl : loadM c.cells = some h0) (k : h0.ok) (run : Int) : Shape c h0 ((bootM c run).1, 0) ((RefS.boot ⟨true, h0⟩).1, 0) ∧ (bootM c run).2.1 = (RefS.boot ⟨true, h0⟩).2 ∧ (bootM c run).2.2.1 = ((RefS.boot ⟨true, h0⟩).2 == 2) ∧ (bootM c run).2.2.2 = (if (RefS.boot ⟨true, h0⟩).2 = 2 then h0.trial else h0.good) := by
  unfold bootM RefS.boot
  rw [hl]
  simp only
  by_cases h1 : h0.trial.size ≠ 0 ∧ 0 < h0.tries
  · rw [if_pos h1, if_pos h1]
    exact ⟨Shape.saved _ (ok_tried k h1.1 h1.2) 0, rfl, rfl, rfl⟩
  · rw [if_neg h1, if_neg h1]
    by_cases h2 : h0.trial.size ≠ 0
    · rw [if_pos h2]
      exact ⟨Shape.saved _ (ok_gone k h2 (fun e => h1 ⟨h2, e⟩)) 0, rfl, rfl, rfl⟩
    · rw [if_neg h2]
      refine ⟨?_, rfl, rfl, rfl⟩
      have e : h0.trial = tx [] := empty_of_size (by omega)
      have E : (⟨true, { h0 with trial := tx [] }⟩ : RefS) = ⟨true, h0⟩ := by rw [← e]
      rw [E]; exact Shape.same 0
theorem shape_confirm {c : ChipS} {h0 : HeldS} (hl : loadM c.cells = some h0) (k : h0.ok) (run : Int) (h2 : run = 2 → h0.trial.size ≠ 0) :
    Shape c h0 ((confirmM c run).1, (confirmM c run).2.2) ((RefS.confirm ⟨true, h0⟩ run).1, (RefS.confirm ⟨true, h0⟩ run).2.2) ∧ (confirmM c run).2.1 = (RefS.confirm ⟨true, h0⟩ run).2.1 := by
  unfold confirmM RefS.confirm
  rw [hl]
  simp only
  by_cases hr : run ≠ 2
  · rw [if_pos (Or.inl hr), if_pos hr]; exact ⟨Shape.same 14, rfl⟩
  · have ht := h2 (by omega)
    rw [if_neg (by omega), if_neg hr]
    refine ⟨?_, rfl⟩
    obtain ⟨a, b, _, d⟩ := k.onTrial ht
    have E : ({ h0 with good := h0.trial, trial := tx [], tries := 0 } : HeldS) = ⟨h0.trial, h0.floor, tx [], 0, 0, tx []⟩ := by rw [← b, ← a]
    simp only
    rw [E]
    exact Shape.saved _ (ok_plain _ _ k.fl d) 0
theorem shape_raise {c : ChipS} {h0 : HeldS} (hl : loadM c.cells = some h0) (k : h0.ok) : Shape c h0 (raiseM c) (RefS.raise ⟨true, h0⟩) := by
  unfold raiseM RefS.raise
  rw [hl]
  simp only
  by_cases ht : h0.trial.size ≠ 0
  · rw [if_pos ht, if_pos ht]; exact Shape.same 10
  · rw [if_neg ht, if_neg ht, if_neg (by have := k.img; omega)]
    exact Shape.saved _ (ok_raised k (by omega)) 0
theorem shape_drop {c : ChipS} {h0 : HeldS} (hl : loadM c.cells = some h0) (k : h0.ok) (run : Int) :
    Shape c h0 ((dropM c run).1, (dropM c run).2.2) ((RefS.drop ⟨true, h0⟩ run).1, (RefS.drop ⟨true, h0⟩ run).2.2) ∧ (dropM c run).2.1 = (RefS.drop ⟨true, h0⟩ run).2.1 := by
  unfold dropM RefS.drop
  rw [hl]
  simp only
  by_cases ht : h0.trial.size = 0 ∧ h0.size = 0
  · rw [if_pos ht, if_pos ht]; exact ⟨Shape.same 11, rfl⟩
  · rw [if_neg ht, if_neg ht]
    refine ⟨?_, rfl⟩
    have i := k.img
    exact Shape.saved ⟨h0.good, h0.floor, tx [], 0, 0, tx []⟩ (ok_plain _ _ k.fl i.1) 0
end Go.Proofs.YtcokahccbjdeaabDoor
