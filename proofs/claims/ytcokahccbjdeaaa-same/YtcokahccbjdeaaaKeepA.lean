import Derived.Test.YtcokahccbjdeaaaUnF
namespace Go.Proofs.Ytcokahccbjdeaaa
open Go.RowKit

set_option maxRecDepth 100000 in
set_option maxHeartbeats 2000000 in
theorem within_any (w : World) (a : Option Addr) (b o cap : Nat) (l : List Seg) (ha : l ≠ [] → a = some ⟨b, o, none⟩) (hl : SegsAt w b o l) (hfit : ∀ s ∈ l, s.fits = true) (hb : l ≠ [] → b < w.heap.size) (hlen : l.length < 4611686018427387904) :
    Calls Try.prog 28 #[.slice a l.length cap] w fun e w' => e = .returned (.bool true) ∧ Below w.heap.size w w' := by
  go_enter Try.func28, Try.ntmps28
  go_wp2
  go_loopw [2, 3, 4] (fun _ i _ wr => ∃ k : Nat, k ≤ l.length ∧ i = .int .i64 k ∧ Below w.heap.size w wr) (fun _ i _ _ => l.length - (intOf i).toNat)
  case atStart => exact ⟨0, by omega, rfl, Below.refl _ _⟩
  case round =>
    obtain ⟨k, hk, rfl, hbel⟩ := hrel
    by_cases hlt : k < l.length
    · have hne : l ≠ [] := by intro e; simp [e] at hlt
      obtain rfl := ha hne
      have hb' := hb hne
      obtain ⟨c1, c2, c3⟩ := hl k hlt
      have d1 : wr.cell? ⟨b, o + k * 3, none⟩ = some (.int .i64 l[k].addr) := (hbel.cell (p := ⟨b, o + k * 3, none⟩) hb').trans c1
      have d2 : wr.cell? ⟨b, o + k * 3 + 1, none⟩ = some (.int .i64 l[k].size) := (hbel.cell (p := ⟨b, o + k * 3 + 1, none⟩) hb').trans c2
      have d3 : wr.cell? ⟨b, o + k * 3 + 2, none⟩ = some (.string l[k].data) := (hbel.cell (p := ⟨b, o + k * 3 + 2, none⟩) hb').trans c3
      clear c1 c2 c3
      obtain ⟨f1, f2, f3, f4⟩ := (Seg.fits_iff _).1 (hfit l[k] (List.getElem_mem hlt))
      generalize l[k] = sg at *
      obtain ⟨x, z, d⟩ := sg
      dsimp only at d1 d2 d3 f1 f2 f3 f4
      have g1 : ¬ x < 0 := by omega
      have g2 : ¬ 128 ≤ x := by omega
      have g3 : ¬ z < 1 := by omega
      have g4 : ¬ 128 - x < z := by omega
      have g5 : ¬ z < (d.size : Int) := by omega
      go_wp2
      go_roundw
      case rel => exact ⟨k + 1, by omega, by go_num, hbel.alloc hbel.size _⟩
      case measure => simp [intOf]; omega
    · go_wp2
      go_ret
      exact ⟨rfl, hbel⟩

def Seg.covers (s : Seg) (n : Int) : Bool := decide (s.addr ≤ n) && decide (n < s.addr + s.size)
def coverN (l : List Seg) (n : Int) : Nat := (l.filter (·.covers n)).length
theorem coverN_snoc (l : List Seg) (n : Int) (k : Nat) (h : k < l.length) : coverN (l.take (k + 1)) n = coverN (l.take k) n + (if l[k].covers n then 1 else 0) := by
  unfold coverN
  rw [List.take_succ_eq_append_getElem h, List.filter_append, List.length_append]
  by_cases hc : l[k].covers n <;> simp [hc]
theorem coverN_le (l : List Seg) (n : Int) : coverN l n ≤ l.length := List.length_filter_le _ _

set_option maxRecDepth 100000 in
set_option maxHeartbeats 2000000 in
theorem covered_any (w : World) (a : Option Addr) (b o cap : Nat) (l : List Seg) (n : Int) (ha : l ≠ [] → a = some ⟨b, o, none⟩) (hl : SegsAt w b o l) (hfit : ∀ s ∈ l, s.fits = true) (hlen : l.length < 4611686018427387904) :
    Calls Try.prog 33 #[.slice a l.length cap, .int .i64 n] w fun e w' => e = .returned (.int .i64 (coverN l n)) ∧ ∃ j, w' = w.drewN j := by
  go_enter Try.func33, Try.ntmps33
  go_wp2
  go_loopw [5, 6] (fun c i wr => ∃ k : Nat, k ≤ l.length ∧ i = .int .i64 k ∧ (∃ q : Nat, q ≤ k ∧ c = .int .i64 q ∧ Hid (q = coverN (l.take k) n)) ∧ ∃ j, wr = w.drewN j) (fun _ i _ => l.length - (intOf i).toNat)
  case atStart => exact ⟨0, by omega, rfl, ⟨0, by omega, rfl, rfl⟩, 0, rfl⟩
  case round =>
    obtain ⟨k, hk, rfl, ⟨q, hq, rfl, hqe⟩, j, rfl⟩ := hrel
    by_cases hlt : k < l.length
    · have hne : l ≠ [] := by intro e; simp [e] at hlt
      obtain rfl := ha hne
      obtain ⟨d1, d2, d3⟩ := hl k hlt
      obtain ⟨f1, f2, f3, f4⟩ := (Seg.fits_iff _).1 (hfit l[k] (List.getElem_mem hlt))
      have hsn := coverN_snoc l n k hlt
      rw [← hqe.out] at hsn
      have HSN : Hid (coverN (l.take (k + 1)) n = q + (if l[k].covers n then 1 else 0)) := hsn
      clear hsn hqe
      have hltI : (k : Int) < (l.length : Int) := by omega
      generalize l[k] = sg at *
      obtain ⟨x, z, d⟩ := sg
      dsimp only at d1 d2 d3 f1 f2 f3 f4
      have e1 : (w.drewN j).cell? ⟨b, o + k * 3, none⟩ = some (.int .i64 x) := d1
      have e2 : (w.drewN j).cell? ⟨b, o + k * 3 + 1, none⟩ = some (.int .i64 z) := d2
      have hw : IntKind.i64.wrap (x + z) = x + z := by rw [IntKind.wrap_i64]; omega
      clear d1 d2 d3
      obtain ⟨wo, hwo⟩ : ∃ wo, wo = w.drewN j := ⟨_, rfl⟩
      rw [← hwo] at e1 e2 ⊢
      have HWO : Hid (wo = w.drewN j) := hwo
      clear hwo
      by_cases g1 : x ≤ n
      · by_cases g2 : n < x + z
        · have HC : Hid (q + 1 = coverN (l.take (k + 1)) n) := by unfold Hid; rw [HSN.out, if_pos (by simp [Seg.covers, g1, g2])]
          go_wp2
          go_quiet (fail)
          all_goals go_wp2
          go_roundw
          case rel => exact ⟨k + 1, by omega, by go_num, ⟨q + 1, by omega, by go_num, HC⟩, j + nq, by rw [HWO.out]; simp [World.drewN, Nat.add_assoc]⟩
          case measure => simp [intOf]; omega
        · have HC : Hid (q = coverN (l.take (k + 1)) n) := by unfold Hid; rw [HSN.out, if_neg (by simp [Seg.covers, g1, g2])]; rfl
          go_wp2
          go_quiet (fail)
          all_goals go_wp2
          go_roundw
          case rel => exact ⟨k + 1, by omega, by go_num, ⟨q, by omega, rfl, HC⟩, j + nq, by rw [HWO.out]; simp [World.drewN, Nat.add_assoc]⟩
          case measure => simp [intOf]; omega
      · have HC : Hid (q = coverN (l.take (k + 1)) n) := by unfold Hid; rw [HSN.out, if_neg (by simp [Seg.covers, g1])]; rfl
        have gd : decide (x ≤ n) = false := by simpa using g1
        go_wp2
        go_quiet (fail)
        all_goals go_wp2
        go_roundw
        case rel => exact ⟨k + 1, by omega, by go_num, ⟨q, by omega, rfl, HC⟩, j + nq, by rw [HWO.out]; simp [World.drewN, Nat.add_assoc]⟩
        case measure => simp [intOf]; omega
    · have hall : Hid (q = coverN l n) := by
        have := hqe.out
        rwa [List.take_of_length_le (by omega)] at this
      go_wp2
      go_ret
      exact ⟨by rw [← hall.out]; rfl, j, rfl⟩
end Go.Proofs.Ytcokahccbjdeaaa
