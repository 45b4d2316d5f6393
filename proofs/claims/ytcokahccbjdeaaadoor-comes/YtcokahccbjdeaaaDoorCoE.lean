import Derived.Test.YtcokahccbjdeaaaDoorCoD
import Derived.Deep.RegionHeld3
namespace Go.Proofs.YtcokahccbjdeaaaDoor
open Go.RowKit

/-- A ship with its device, and what it holds. -/
def Rd (B N : Nat) (w : World) (k : Nat) (run : Int) (r : RefS) : Prop := ∃ b g q c L, Ship B w k b g q c run L ∧ Rel c r ∧ r.made = true ∧ c.ops ≤ (N : Int)
theorem Rd.up {B N M : Nat} {w : World} {k : Nat} {run : Int} {r : RefS} (h : Rd B N w k run r) (hm : N ≤ M) : Rd B M w k run r := by
  obtain ⟨b, g, q, c, L, S, R, m, o⟩ := h
  exact ⟨b, g, q, c, L, S, R, m, by omega⟩
theorem Rd.below {B N : Nat} {w w' : World} {k : Nat} {run : Int} {r : RefS} (h : Rd B N w k run r) (hb : Below w.heap.size w w') : Rd B N w' k run r ∧ FrS B w w' := by
  obtain ⟨b, g, q, c, L, S, R, m, o⟩ := h
  exact ⟨⟨b, g, q, c, L, (S.below hb).1, R, m, o⟩, (S.below hb).2⟩
theorem Rel.oks {c : ChipS} {r : RefS} (h : Rel c r) : ∀ x, loadM c.cells = some x → x.ok := by
  intro x hx
  cases hm : r.made
  · rw [h.no hm] at hx; cases hx
  · obtain ⟨h1, h2⟩ := h.yes hm
    rw [h1] at hx
    simp only [Option.some.injEq] at hx
    rw [← hx]; exact h2
theorem reopened_rd (w : World) (B N k : Nat) (run : Int) (r : RefS) (h : Rd B N w k run r) :
    Calls Tryd.prog 14 #[.pointer (some ⟨k, 0, none⟩)] w fun e w' => e = .returned (.bool true) ∧ Rd B 128 w' k 0 r ∧ FrS B w w' := by
  obtain ⟨b, g, q, c, L, S, R, m, o⟩ := h
  refine (reopened_any w B k b g c _ L r.h S.s (R.yes m).1).mono ?_
  rintro e w' ⟨rfl, ⟨b', g', q', S'⟩, F⟩
  obtain ⟨R', o'⟩ := moved_rel R S.s.dv.chip.len
  exact ⟨rfl, ⟨b', g', q', _, _, S', R', m, o'⟩, F⟩
set_option maxRecDepth 100000 in
set_option maxHeartbeats 4000000 in
theorem sails_any (w : World) (B N k : Nat) (run : Int) (r : RefS) (s : ByteArray) (tf : Bool) (h : Rd B N w k run r) (hN : N ≤ 1000000) (ht : (r.boot.2 == 2) = tf) (hs : s = if r.boot.2 = 2 then r.boot.1.h.trial else r.boot.1.h.good) (hv : 0 ≤ verB s) (hz : s.size < 4611686018427387904) :
    Calls Tryd.prog 12 #[.pointer (some ⟨k, 0, none⟩), .string s, .bool tf] w fun e w' => e = .returned (.bool true) ∧ Rd B (N + 64) w' k r.boot.2 r.boot.1 ∧ FrS B w w' := by
  obtain ⟨b, g, q, c, L, S, R, m, o⟩ := h
  obtain ⟨⟨_, e2, n, hn, e3⟩, e4, e5, e6, e7⟩ := R.boot m run
  simp only at e2 e3
  have HB := boot_any w q b g c run (by omega) S.s.dv S.hq R.oks
  rw [e4, e5, e6, ht, ← hs] at HB
  have HS := fun wx => shows_any wx tf (loadedB s).1 (loadedB s).2.1 (loadedB s).2.2 s hz hv
  have hd : decide (loadedB s = ((loadedB s).1, (loadedB s).2.1, (loadedB s).2.2)) = true := by simp
  rw [hd] at HS
  have hFin : ∀ w', Ship B w' k b g q (bootM c run).1 r.boot.2 L → Rd B (N + 64) w' k r.boot.2 r.boot.1 := fun w' S' => ⟨b, g, q, _, L, S', e2, e7, by omega⟩
  obtain ⟨q0, q1, q2, q3, q4, q5, q6, qf⟩ := ship_cells S.s.hk
  simp only [jumpV] at HB
  generalize loadedB s = lo at *
  obtain ⟨la, lc, ld⟩ := lo
  simp only at *
  generalize (bootM c run).1 = c' at *
  clear e2 e3 e4 e5 e6 e7 hd ht hs R
  go_enter Tryd.func12, Tryd.ntmps12
  go_wp2_with (first
    | (go_at_call 26; refine HB.mono ?_; rintro en w2 ⟨rfl, hL2⟩; obtain ⟨S2, F2⟩ := S.left hL2)
    | (go_at_call 27; refine (HS _).mono ?_; rintro en w3 ⟨rfl, hb3⟩))
  go_ret
  have hbA := ((Below.refl w2.heap.size w2).alloc (Nat.le_refl _) (.cells #[.bool tf, .int .i64 la, .int .i64 lc, .string ld] 68)).trans (hb3.mono (by simp))
  exact ⟨by cases tf <;> rfl, hFin _ (S2.below hbA).1, F2.trans (S2.below hbA).2⟩
end Go.Proofs.YtcokahccbjdeaaaDoor
