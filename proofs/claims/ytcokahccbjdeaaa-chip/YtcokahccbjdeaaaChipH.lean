import Derived.Test.YtcokahccbjdeaaaChipG
namespace Go.Proofs.Ytcokahccbjdeaaa
open Go.RowKit

def T0 : ByteArray := ByteArray.empty
def T1 : ByteArray := ⟨#[240, 15]⟩
def T2 : ByteArray := ⟨#[1, 2, 128]⟩
def T3 : ByteArray := ⟨#[]⟩
def r20 : ByteArray := ⟨([0, 0, 0, 255, 63, 243, 63, 255, 0, 0, 0, 0] ++ List.replicate 8 (255 : UInt8)).toArray⟩
theorem f8_size : f8.size = 8 := by show (List.replicate 8 (255 : UInt8)).toArray.size = 8; rw [List.size_toArray, List.length_replicate]
theorem r20_eq : r20 = ⟨#[0, 0, 0, 255, 63, 243, 63, 255, 0, 0, 0, 0]⟩ ++ f8 := by
  apply ByteArray.ext
  rw [ByteArray.data_append]
  show ([0, 0, 0, 255, 63, 243, 63, 255, 0, 0, 0, 0] ++ List.replicate 8 (255 : UInt8)).toArray = [0, 0, 0, 255, 63, 243, 63, 255, 0, 0, 0, 0].toArray ++ (List.replicate 8 (255 : UInt8)).toArray
  rw [List.append_toArray]
theorem t3_r : (S t3 true 0 T1 true 3).read ((0 : Nat) : Int) ((20 : Nat) : Int) = r20 := by rw [S_read t3 0 T1 3 true true 0 20 (by omega) _ t3_read]; rfl
theorem t4_r : (S t4 true 0 T2 true 4).read ((0 : Nat) : Int) ((12 : Nat) : Int) = ⟨#[1, 2, 128, 255, 63, 243, 63, 255, 128, 1, 2, 128]⟩ := by rw [S_read t4 0 T2 4 true true 0 12 (by omega) _ t4_read]
theorem t5_r : (S t5 true 0 T3 true 5).read ((0 : Nat) : Int) ((3 : Nat) : Int) = ⟨#[1, 2, 128]⟩ := by rw [S_read t5 0 T3 5 true true 0 3 (by omega) _ t5_read]
theorem t6_r : (S t6 false 0 T3 false 6).read ((0 : Nat) : Int) ((256 : Nat) : Int) = f256 := by rw [S_read t6 0 T3 6 false false 0 256 (by omega) _ t6_read]; rfl

set_option maxRecDepth 100000 in
set_option maxHeartbeats 4000000 in
theorem torn_any (w : World) : Calls Try.prog 12 #[] w fun e w' => e = .returned (.bool true) ∧ Below w.heap.size w w' := by
  have P1 : Hid ((S (fun _ => 255) false 0 ByteArray.empty false 0).program 8 ⟨#[0, 0, 0, 0]⟩ = S t1 false 0 T0 false 1) := S_prog _ _ _ _ 8 ⟨#[0, 0, 0, 0]⟩ (by decide)
  have P2 : Hid ((S t1 false 0 T0 false 1).cut 1 ⟨#[240, 15]⟩ = S t1 true 1 T1 false 1) := rfl
  have P3 : Hid ((S t1 true 1 T1 false 1).program 0 ⟨#[0, 0, 0]⟩ = S t2 true 0 T1 false 2) := S_prog_armed _ 1 _ _ 0 ⟨#[0, 0, 0]⟩ (by decide) (by decide)
  have P4 : Hid ((S t2 true 0 T1 false 2).program 4 ⟨#[51, 51, 51]⟩ = S t3 true 0 T1 true 3) := S_prog_torn _ _ _ _ 4 ⟨#[51, 51, 51]⟩ (by decide) (by decide)
  have P5 : Hid ((S t3 true 0 T1 true 3).erase 0 = S t3 true 0 T1 true 3) := S_erase_dead _ _ _ _ _ _
  have P6 : Hid ((S t3 true 0 T1 true 3).program 16 ⟨#[97]⟩ = S t3 true 0 T1 true 3) := S_prog_dead _ _ _ _ _ _ _
  have P7 : Hid ((S t3 true 0 T1 true 3).restore = S t3 false 0 T1 false 3) := rfl
  have P8 : Hid ((S t3 false 0 T1 false 3).cut 0 ⟨#[1, 2, 128]⟩ = S t3 true 0 T2 false 3) := rfl
  have P9 : Hid ((S t3 true 0 T2 false 3).erase 0 = S t4 true 0 T2 true 4) := S_erase_torn _ _ _ _ 0 (by decide) (by decide)
  have P10 : Hid ((S t4 true 0 T2 true 4).restore = S t4 false 0 T2 false 4) := rfl
  have P11 : Hid ((S t4 false 0 T2 false 4).cut 0 ⟨#[]⟩ = S t4 true 0 T3 false 4) := rfl
  have P12 : Hid ((S t4 true 0 T3 false 4).erase 0 = S t5 true 0 T3 true 5) := S_erase_torn _ _ _ _ 0 (by decide) (by decide)
  have P13 : Hid ((S t5 true 0 T3 true 5).restore = S t5 false 0 T3 false 5) := rfl
  have P14 : Hid ((S t5 false 0 T3 false 5).erase 0 = S t6 false 0 T3 false 6) := S_erase _ _ _ _ 0 (by decide)
  have z1 := f8_size
  have le : r20.toList = (⟨#[0, 0, 0, 255, 63, 243, 63, 255, 0, 0, 0, 0]⟩ ++ f8).toList := by rw [← r20_eq]
  go_enter Try.func12, Try.ntmps12
  go_wp2_with (first
    | (go_at_call 34; refine (at_new w).mono ?_; rintro e w1 ⟨b, g, rfl, h0⟩)
    | (go_at_call 39; refine (at_prog 8 _ _ h0 (by decide) (by decide) (by decide) (by decide) P1.out).mono ?_; rintro e w2 ⟨rfl, h1⟩; clear h0)
    | (go_at_call 41; refine (at_cut 1 _ _ h1 (by decide) (by decide) (by decide) P2.out).mono ?_; rintro e w3 ⟨rfl, h2⟩; clear h1)
    | (go_at_call 39; refine (at_prog 0 _ _ h2 (by decide) (by decide) (by decide) (by decide) P3.out).mono ?_; rintro e w4 ⟨rfl, h3⟩; clear h2)
    | (go_at_call 38; refine (at_dead false h3 rfl).mono ?_; rintro e w5 ⟨rfl, rfl⟩)
    | (go_at_call 37; refine (at_ops 2 h3 rfl).mono ?_; rintro e w6 ⟨rfl, rfl⟩)
    | (go_at_call 39; refine (at_prog 4 _ _ h3 (by decide) (by decide) (by decide) (by decide) P4.out).mono ?_; rintro e w7 ⟨rfl, h4⟩; clear h3)
    | (go_at_call 40; refine (at_erase 0 _ h4 (by decide) P5.out).mono ?_; rintro e w8 ⟨rfl, h5⟩; clear h4)
    | (go_at_call 39; refine (at_prog 16 _ _ h5 (by decide) (by decide) (by decide) (by decide) P6.out).mono ?_; rintro e w9 ⟨rfl, h6⟩; clear h5)
    | (go_at_call 35; refine (at_read 0 20 r20 h6 (by omega) t3_r).mono ?_; rintro e w10 ⟨rfl, rfl⟩)
    | (go_at_call 38; refine (at_dead true h6 rfl).mono ?_; rintro e w11 ⟨rfl, rfl⟩)
    | (go_at_call 37; refine (at_ops 3 h6 rfl).mono ?_; rintro e w12 ⟨rfl, rfl⟩)
    | (go_at_call 36; refine (at_filled 8 f8 h6 (by omega) rfl).mono ?_; rintro e w13 ⟨rfl, h7⟩; clear h6)
    | (go_at_call 42; refine (at_restore _ h7 P7.out).mono ?_; rintro e w14 ⟨rfl, h8⟩; clear h7)
    | (go_at_call 41; refine (at_cut 0 _ _ h8 (by decide) (by decide) (by decide) P8.out).mono ?_; rintro e w15 ⟨rfl, h9⟩; clear h8)
    | (go_at_call 40; refine (at_erase 0 _ h9 (by decide) P9.out).mono ?_; rintro e w16 ⟨rfl, h10⟩; clear h9)
    | (go_at_call 35; refine (at_read 0 12 _ h10 (by omega) t4_r).mono ?_; rintro e w17 ⟨rfl, rfl⟩)
    | (go_at_call 38; refine (at_dead true h10 rfl).mono ?_; rintro e w18 ⟨rfl, rfl⟩)
    | (go_at_call 42; refine (at_restore _ h10 P10.out).mono ?_; rintro e w19 ⟨rfl, h11⟩; clear h10)
    | (go_at_call 41; refine (at_cut 0 _ _ h11 (by decide) (by decide) (by decide) P11.out).mono ?_; rintro e w20 ⟨rfl, h12⟩; clear h11)
    | (go_at_call 40; refine (at_erase 0 _ h12 (by decide) P12.out).mono ?_; rintro e w21 ⟨rfl, h13⟩; clear h12)
    | (go_at_call 35; refine (at_read 0 3 _ h13 (by omega) t5_r).mono ?_; rintro e w22 ⟨rfl, rfl⟩)
    | (go_at_call 38; refine (at_dead true h13 rfl).mono ?_; rintro e w23 ⟨rfl, rfl⟩)
    | (go_at_call 42; refine (at_restore _ h13 P13.out).mono ?_; rintro e w24 ⟨rfl, h14⟩; clear h13)
    | (go_at_call 40; refine (at_erase 0 _ h14 (by decide) P14.out).mono ?_; rintro e w25 ⟨rfl, h15⟩; clear h14)
    | (go_at_call 35; refine (at_read 0 256 f256 h15 (by omega) t6_r).mono ?_; rintro e w26 ⟨rfl, rfl⟩)
    | (go_at_call 38; refine (at_dead false h15 rfl).mono ?_; rintro e w27 ⟨rfl, rfl⟩)
    | (go_at_call 36; refine (at_filled 256 f256 h15 (by omega) rfl).mono ?_; rintro e w28 ⟨rfl, h16⟩; clear h15)
    | (go_at_call 37; refine (at_ops 6 h16 rfl).mono ?_; rintro e w29 ⟨rfl, rfl⟩))
  go_ret
  exact ⟨rfl, h16.bel⟩

set_option maxRecDepth 100000 in
theorem chip_law (w : World) : Calls Try.prog 3 #[] w fun e w' => e = .returned (.bool true) ∧ Below w.heap.size w w' := by
  go_enter Try.func3, Try.ntmps3
  go_wp2_with (first
    | (go_at_call 11; refine (laid_any w).mono ?_; rintro e w1 ⟨rfl, hb1⟩)
    | (go_at_call 12; refine (torn_any _).mono ?_; rintro e w2 ⟨rfl, hb2⟩))
  go_ret
  exact ⟨rfl, hb1.trans (hb2.mono hb1.size)⟩
end Go.Proofs.Ytcokahccbjdeaaa
