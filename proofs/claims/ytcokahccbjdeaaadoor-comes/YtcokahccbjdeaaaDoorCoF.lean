import Derived.Test.YtcokahccbjdeaaaDoorCoE
import Derived.Test.YtcokahccbjdeaaaDoorStL
import Derived.Test.YtcokahccbjdeaaaDoorStN
namespace Go.Proofs.YtcokahccbjdeaaaDoor
open Go.RowKit

def stagedR (gd : ByteArray) (f : Int) (im : ByteArray) (p : Nat) : RefS := ⟨true, ⟨gd, f, tx [], 0, im.size, im.extract 0 p⟩⟩
def trialR (gd : ByteArray) (f : Int) (im : ByteArray) (t : Int) : RefS := ⟨true, ⟨gd, f, im, t, 0, tx []⟩⟩
def bareR (gd : ByteArray) (f : Int) : RefS := ⟨true, bareM gd f⟩
theorem stage_r (gd : ByteArray) (f : Int) (im : ByteArray) (h1 : ¬ im.size = 0) (h2 : im.size ≤ 120) : (bareR gd f).stage im.size = (stagedR gd f im 0, 0) := by
  unfold RefS.stage bareR bareM stagedR
  rw [if_neg (by omega)]
  simp only
  rw [if_neg (by simp [tx_size])]
  have : im.extract 0 0 = tx [] := empty_of_size (by simp)
  rw [this]
theorem write_r (gd : ByteArray) (f : Int) (im : ByteArray) (p e : Nat) (h1 : p < e) (h2 : e ≤ im.size) (h3 : e ≤ p + 8) : (stagedR gd f im p).write (im.extract p e) = (stagedR gd f im e, 0) := by
  unfold RefS.write stagedR
  have z1 : (im.extract p e).size = e - p := by rw [ByteArray.size_extract]; omega
  have z2 : (im.extract 0 p).size = p := by rw [ByteArray.size_extract]; omega
  simp only [z1, z2]
  rw [if_neg (by omega), if_neg (by omega)]
  have : im.extract 0 p ++ im.extract p e = im.extract 0 e := by
    rw [ByteArray.extract_append_extract]
    congr 1 <;> omega
  rw [this]
theorem activate_r (gd : ByteArray) (f : Int) (im : ByteArray) (h1 : ¬ im.size = 0) (h2 : f ≤ verB im) (h3 : 0 ≤ f) : (stagedR gd f im im.size).activate = (trialR gd f im 3, 0) := by
  unfold RefS.activate stagedR trialR
  simp only [ByteArray.extract_zero_size]
  rw [if_neg (by omega), if_neg (by omega), if_neg (by omega), if_neg (by omega)]
theorem boot_trial (gd : ByteArray) (f : Int) (im : ByteArray) (t : Int) (h1 : ¬ im.size = 0) (h2 : 0 < t) : (trialR gd f im t).boot = (trialR gd f im (t - 1), 2) := by
  unfold RefS.boot trialR
  simp only
  rw [if_pos ⟨h1, h2⟩]
theorem boot_gone (gd : ByteArray) (f : Int) (im : ByteArray) : (trialR gd f im 0).boot = (bareR gd f, 1) := by
  unfold RefS.boot trialR
  simp only
  rw [if_neg (by omega)]; rfl
theorem boot_bare (gd : ByteArray) (f : Int) : (bareR gd f).boot = (bareR gd f, 1) := by
  unfold RefS.boot bareR bareM
  simp only
  rw [if_neg (by simp)]
theorem confirm_r (gd : ByteArray) (f : Int) (im : ByteArray) (t : Int) : (trialR gd f im t).confirm 2 = (bareR im f, 1, 0) := rfl
theorem look_ship {w : World} {k b q : Nat} {L : Log} (H : w.heap[k]? = some (.cells (shipC b (.pointer (some ⟨q, 0, none⟩)) L) 32 (0, 0))) : w.cell? ⟨k, 1, none⟩ = some (.pointer (some ⟨q, 0, none⟩)) := (ship_cells H).2.1
/-- The contracts of a device, at a ship. -/
theorem rd_stage (w : World) (B N k b g q : Nat) (c : ChipS) (run : Int) (L : Log) (r r' : RefS) (n : Int) (S : Ship B w k b g q c run L) (R : Rel c r) (m : r.made = true) (o : c.ops ≤ (N : Int)) (hN : N ≤ 1000000) (hr : r.stage n = (r', 0)) :
    Calls Tryd.prog 22 #[.pointer (some ⟨q, 0, none⟩), .int .i64 n] w fun e w' => e = .returned (.int .i64 0) ∧ (∃ c', Ship B w' k b g q c' run L ∧ Rel c' r' ∧ c'.ops ≤ ((N + 64 : Nat) : Int)) ∧ FrS B w w' := by
  obtain ⟨e1, e2, i, hi, e3⟩ := R.stage m n
  rw [hr] at e1 e2
  refine (stage_any w q b g c run n (by omega) S.s.dv S.hq R.oks).mono ?_
  rintro e w' ⟨rfl, hc, ho⟩
  rw [e1]
  obtain ⟨S', F⟩ := S.chip hc ho
  exact ⟨rfl, ⟨_, S', e2, by omega⟩, F⟩
theorem rd_write (w : World) (B N k b g q : Nat) (c : ChipS) (run : Int) (L : Log) (r r' : RefS) (d : ByteArray) (S : Ship B w k b g q c run L) (R : Rel c r) (m : r.made = true) (o : c.ops ≤ (N : Int)) (hN : N ≤ 1000000) (hd : d.size < 4611686018427387904) (hr : r.write d = (r', 0)) :
    Calls Tryd.prog 23 #[.pointer (some ⟨q, 0, none⟩), .string d] w fun e w' => e = .returned (.int .i64 0) ∧ (∃ c', Ship B w' k b g q c' run L ∧ Rel c' r' ∧ c'.ops ≤ ((N + 64 : Nat) : Int)) ∧ FrS B w w' := by
  obtain ⟨e1, e2, i, hi, e3⟩ := R.write m d
  rw [hr] at e1 e2
  refine (write_any w q b g c run d hd (by omega) S.s.dv S.hq R.oks).mono ?_
  rintro e w' ⟨rfl, hc, ho⟩
  rw [e1]
  obtain ⟨S', F⟩ := S.chip hc ho
  exact ⟨rfl, ⟨_, S', e2, by omega⟩, F⟩
theorem rd_activate (w : World) (B N k b g q : Nat) (c : ChipS) (run : Int) (L : Log) (r r' : RefS) (S : Ship B w k b g q c run L) (R : Rel c r) (m : r.made = true) (o : c.ops ≤ (N : Int)) (hN : N ≤ 1000000) (hr : r.activate = (r', 0)) :
    Calls Tryd.prog 25 #[.pointer (some ⟨q, 0, none⟩)] w fun e w' => e = .returned (.int .i64 0) ∧ (∃ c', Ship B w' k b g q c' run L ∧ Rel c' r' ∧ c'.ops ≤ ((N + 64 : Nat) : Int)) ∧ FrS B w w' := by
  obtain ⟨e1, e2, i, hi, e3⟩ := R.activate m
  rw [hr] at e1 e2
  refine (activate_any w q b g c run (by omega) S.s.dv S.hq R.oks).mono ?_
  rintro e w' ⟨rfl, hc, ho⟩
  rw [e1]
  obtain ⟨S', F⟩ := S.chip hc ho
  exact ⟨rfl, ⟨_, S', e2, by omega⟩, F⟩
theorem rd_confirm (w : World) (B N k b g q : Nat) (c : ChipS) (L : Log) (gd im : ByteArray) (f t : Int) (h1 : ¬ im.size = 0) (S : Ship B w k b g q c 2 L) (R : Rel c (trialR gd f im t)) (o : c.ops ≤ (N : Int)) (hN : N ≤ 1000000) :
    Calls Tryd.prog 13 #[.pointer (some ⟨q, 0, none⟩)] w fun e w' => e = .returned (.int .i64 0) ∧ (∃ c', Ship B w' k b g q c' 1 L ∧ Rel c' (bareR im f) ∧ c'.ops ≤ ((N + 64 : Nat) : Int)) ∧ FrS B w w' := by
  obtain ⟨⟨e1, e2, i, hi, e3⟩, e4, e5⟩ := R.confirm rfl 2 (fun _ => h1)
  simp only at e1 e2 e3
  rw [confirm_r] at e1 e2 e4
  refine (confirm_any w q b g c 2 (by omega) S.s.dv S.hq R.oks).mono ?_
  rintro e w' ⟨rfl, hL⟩
  rw [e1]
  rw [e4] at hL
  obtain ⟨S', F⟩ := S.left hL
  exact ⟨rfl, ⟨_, S', e2, by omega⟩, F⟩
theorem rd_state (w : World) (B k b g q : Nat) (c : ChipS) (run : Int) (L : Log) (r : RefS) (S : Ship B w k b g q c run L) (R : Rel c r) (m : r.made = true) :
    Calls Tryd.prog 24 #[.pointer (some ⟨q, 0, none⟩)] w fun e w' => e = .returned (stateM r.h run).v ∧ Below w.heap.size w w' :=
  state_any w q b g c run r.h S.s.dv S.hq (R.yes m).1
end Go.Proofs.YtcokahccbjdeaaaDoor
