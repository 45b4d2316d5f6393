import Derived.Test.YtcokahccbjdeaaaChipF
namespace Go.Proofs.Ytcokahccbjdeaaa
open Go.RowKit

/-- What the law's own walk carries: the chip, told by F, in two blocks of the call's own. -/
structure At (B : World) (w : World) (b g : Nat) (c : ChipS) : Prop where
  chip : ChipAt w b g c
  bel : Below B.heap.size B w
  hb : B.heap.size ≤ b
  hg : B.heap.size ≤ g

theorem At.step {B w w' : World} {b g : Nat} {c c' : ChipS} (h : At B w b g c) (hc : ChipAt w' b g c') (ho : Only (fun k => k = b ∨ k = g) w w') : At B w' b g c' :=
  ⟨hc, h.bel.trans (ho.below h.bel.size (fun k hk => by have := h.hb; have := h.hg; omega)), h.hb, h.hg⟩
theorem At.other {B w w' : World} {b g : Nat} {c : ChipS} (h : At B w b g c) (hb : Below w.heap.size w w') : At B w' b g c := by
  have h1 : b < w.heap.size := (Array.getElem?_eq_some_iff.1 h.chip.hb).1
  have h2 : g < w.heap.size := (Array.getElem?_eq_some_iff.1 h.chip.hg).1
  refine ⟨⟨by rw [hb.block b h1]; exact h.chip.hb, by rw [hb.block g h2]; exact h.chip.hg, h.chip.len, h.chip.ops0, h.chip.left1, h.chip.left0, h.chip.tn⟩, h.bel.trans (hb.mono h.bel.size), h.hb, h.hg⟩

theorem at_new (w : World) : Calls Try.prog 34 #[] w fun e w' => ∃ b g, e = .returned (.pointer (some ⟨b, 0, none⟩)) ∧ At w w' b g (S (fun _ => 255) false 0 ByteArray.empty false 0) := by
  refine (new_any w).mono ?_
  rintro e w' ⟨rfl, hc, hb, hs⟩
  exact ⟨_, _, rfl, by rw [← new_S]; exact hc, hb, by omega, Nat.le_refl _⟩
theorem at_prog {B w : World} {b g : Nat} {c : ChipS} (o : Int) (d : ByteArray) (c' : ChipS) (h : At B w b g c) (hops : c.ops < 4611686018427387904) (ho1 : o < 9223372036854775808) (ho0 : -9223372036854775808 ≤ o) (hd0 : d.size < 4611686018427387904) (he : c.program o d = c') :
    Calls Try.prog 39 #[.pointer (some ⟨b, 0, none⟩), .int .i64 o, .string d] w fun e w' => e = .returned (.tuple #[]) ∧ At B w' b g c' := by
  refine (program_all w b g c o d ho1 ho0 hd0 h.chip hops).mono ?_
  rintro e w' ⟨rfl, hc, ho, _⟩
  exact ⟨rfl, h.step (he ▸ hc) ho⟩
theorem at_erase {B w : World} {b g : Nat} {c : ChipS} (s : Int) (c' : ChipS) (h : At B w b g c) (hops : c.ops < 4611686018427387904) (he : c.erase s = c') :
    Calls Try.prog 40 #[.pointer (some ⟨b, 0, none⟩), .int .i64 s] w fun e w' => e = .returned (.tuple #[]) ∧ At B w' b g c' := by
  refine (erase_all w b g c s h.chip hops).mono ?_
  rintro e w' ⟨rfl, hc, ho, _⟩
  exact ⟨rfl, h.step (he ▸ hc) ho⟩
theorem at_cut {B w : World} {b g : Nat} {c : ChipS} (n : Int) (t : ByteArray) (c' : ChipS) (h : At B w b g c) (hn1 : n < 9223372036854775808) (hn0 : -9223372036854775808 ≤ n) (ht : t.size < 4611686018427387904) (he : c.cut n t = c') :
    Calls Try.prog 41 #[.pointer (some ⟨b, 0, none⟩), .int .i64 n, .string t] w fun e w' => e = .returned (.tuple #[]) ∧ At B w' b g c' := by
  refine (cut_any w b g c n t hn1 hn0 ht h.chip).mono ?_
  rintro e w' ⟨rfl, hc, ho, _⟩
  exact ⟨rfl, h.step (he ▸ hc) ho⟩
theorem at_restore {B w : World} {b g : Nat} {c : ChipS} (c' : ChipS) (h : At B w b g c) (he : c.restore = c') :
    Calls Try.prog 42 #[.pointer (some ⟨b, 0, none⟩)] w fun e w' => e = .returned (.tuple #[]) ∧ At B w' b g c' := by
  refine (restore_any w b g c h.chip).mono ?_
  rintro e w' ⟨rfl, hc, ho, _⟩
  exact ⟨rfl, h.step (he ▸ hc) ho⟩
theorem at_read {B w : World} {b g : Nat} {c : ChipS} (o n : Nat) (r : ByteArray) (h : At B w b g c) (ho : o + n ≤ 1024) (he : c.read o n = r) :
    Calls Try.prog 35 #[.pointer (some ⟨b, 0, none⟩), .int .i64 (o : Int), .int .i64 (n : Int)] w fun e w' => e = .returned (.string r) ∧ w' = w := by
  rw [← he]
  exact read_any w b g c o n (by omega) (by omega) (by omega) (by omega) h.chip

def f1024 : ByteArray := ⟨(List.replicate 1024 255).toArray⟩
def f256 : ByteArray := ⟨(List.replicate 256 255).toArray⟩
def f759 : ByteArray := ⟨(List.replicate 759 255).toArray⟩
def f8 : ByteArray := ⟨(List.replicate 8 255).toArray⟩
theorem f256_size : f256.size = 256 := by show (List.replicate 256 (255 : UInt8)).toArray.size = 256; rw [List.size_toArray, List.length_replicate]
theorem f759_size : f759.size = 759 := by show (List.replicate 759 (255 : UInt8)).toArray.size = 759; rw [List.size_toArray, List.length_replicate]

theorem at_filled {B w : World} {b g : Nat} {c : ChipS} (n : Nat) (f : ByteArray) (h : At B w b g c) (hn : n ≤ 1048576) (hf : f = ⟨(List.replicate n 255).toArray⟩) :
    Calls Try.prog 36 #[.int .u8 255, .int .i64 (n : Int)] w fun e w' => e = .returned (.string f) ∧ At B w' b g c := by
  refine (filled_any w 255 n hn).mono ?_
  rintro e w' ⟨rfl, hb⟩
  exact ⟨by rw [hf], h.other hb⟩


def lend : ByteArray := ⟨(((List.replicate 256 (255 : UInt8) ++ [97]) ++ List.replicate 759 255) ++ [1, 2, 3, 4, 5, 6, 7, 8]).toArray⟩
abbrev bz (F : Nat → UInt8) (op : Int) : ChipS := S F false 0 ByteArray.empty false op

theorem at_ops {B w : World} {b g : Nat} {c : ChipS} (n : Int) (h : At B w b g c) (he : c.ops = n) :
    Calls Try.prog 37 #[.pointer (some ⟨b, 0, none⟩)] w fun e w' => e = .returned (.int .i64 n) ∧ w' = w := by
  rw [← he]; exact ops_any w b g c h.chip
theorem at_dead {B w : World} {b g : Nat} {c : ChipS} (n : Bool) (h : At B w b g c) (he : c.dead = n) :
    Calls Try.prog 38 #[.pointer (some ⟨b, 0, none⟩)] w fun e w' => e = .returned (.bool n) ∧ w' = w := by
  rw [← he]; exact dead_any w b g c h.chip
theorem lend_eq : lend = f256 ++ ⟨#[97]⟩ ++ f759 ++ ⟨#[1, 2, 3, 4, 5, 6, 7, 8]⟩ := by
  apply ByteArray.ext
  rw [ByteArray.data_append, ByteArray.data_append, ByteArray.data_append]
  show (((List.replicate 256 (255 : UInt8) ++ [97]) ++ List.replicate 759 255) ++ [1, 2, 3, 4, 5, 6, 7, 8]).toArray = (((List.replicate 256 (255 : UInt8)).toArray ++ [97].toArray) ++ (List.replicate 759 255).toArray) ++ [1, 2, 3, 4, 5, 6, 7, 8].toArray
  rw [List.append_toArray, List.append_toArray, List.append_toArray]
theorem l5_lend : (bz l5 5).read ((0 : Nat) : Int) ((1024 : Nat) : Int) = lend := by
  rw [S_read l5 0 ByteArray.empty 5 false false 0 1024 (by omega) _ l5_read]; rfl

set_option maxRecDepth 100000 in
set_option maxHeartbeats 4000000 in
theorem laid_any (w : World) : Calls Try.prog 11 #[] w fun e w' => e = .returned (.bool true) ∧ Below w.heap.size w w' := by
  have p1 : (bz (fun _ => 255) 0).program 250 ⟨#[15, 240, 255, 0, 170, 85]⟩ = bz l1 1 := S_prog _ _ _ _ 250 ⟨#[15, 240, 255, 0, 170, 85]⟩ (by decide)
  have p2 : (bz l1 1).program 250 ⟨#[243, 243]⟩ = bz l2 2 := S_prog _ _ _ _ 250 ⟨#[243, 243]⟩ (by decide)
  have P1 : Hid ((bz (fun _ => 255) 0).program 250 ⟨#[15, 240, 255, 0, 170, 85]⟩ = bz l1 1) := p1
  have P2 : Hid ((bz l1 1).program 250 ⟨#[243, 243]⟩ = bz l2 2) := p2
  have P3 : Hid ((bz l2 2).program 1016 ⟨#[1, 2, 3, 4, 5, 6, 7, 8]⟩ = bz l3 3) := S_prog _ _ _ _ 1016 ⟨#[1, 2, 3, 4, 5, 6, 7, 8]⟩ (by decide)
  have P4 : Hid ((bz l3 3).program 256 ⟨#[97]⟩ = bz l4 4) := S_prog _ _ _ _ 256 ⟨#[97]⟩ (by decide)
  have P5 : Hid ((bz l4 4).erase 0 = bz l5 5) := S_erase _ _ _ _ 0 (by decide)
  clear p1 p2
  have z1 := f256_size
  have z2 := f759_size
  have le : lend.toList = (f256 ++ ⟨#[97]⟩ ++ f759 ++ ⟨#[1, 2, 3, 4, 5, 6, 7, 8]⟩).toList := by rw [← lend_eq]
  go_enter Try.func11, Try.ntmps11
  go_wp2_with (first
    | (go_at_call 34; refine (at_new w).mono ?_; rintro e w1 ⟨b, g, rfl, h0⟩)
    | (go_at_call 35; refine (at_read 0 1024 f1024 h0 (by omega) (S_read _ _ _ _ _ _ 0 1024 (by omega) _ (by rw [List.map_const', List.length_range]))).mono ?_; rintro e w2 ⟨rfl, rfl⟩)
    | (go_at_call 36; refine (at_filled 1024 f1024 h0 (by omega) rfl).mono ?_; rintro e w3 ⟨rfl, h1⟩; clear h0)
    | (go_at_call 37; refine (at_ops 0 h1 rfl).mono ?_; rintro e w4 ⟨rfl, rfl⟩)
    | (go_at_call 38; refine (at_dead false h1 rfl).mono ?_; rintro e w5 ⟨rfl, rfl⟩)
    | (go_at_call 39; refine (at_prog 250 _ _ h1 (by decide) (by decide) (by decide) (by decide) P1.out).mono ?_; rintro e w6 ⟨rfl, h2⟩; clear h1)
    | (go_at_call 39; refine (at_prog 250 _ _ h2 (by decide) (by decide) (by decide) (by decide) P2.out).mono ?_; rintro e w7 ⟨rfl, h3⟩; clear h2)
    | (go_at_call 39; refine (at_prog 251 _ _ h3 (by decide) (by decide) (by decide) (by decide) (S_prog_none _ _ _ _ _ _ _ _ (by decide))).mono ?_; rintro e w8 ⟨rfl, h4⟩; clear h3)
    | (go_at_call 39; refine (at_prog 0 _ _ h4 (by decide) (by decide) (by decide) (by decide) (S_prog_none _ _ _ _ _ _ _ _ (by decide))).mono ?_; rintro e w9 ⟨rfl, h5⟩; clear h4)
    | (go_at_call 39; refine (at_prog 1023 _ _ h5 (by decide) (by decide) (by decide) (by decide) (S_prog_none _ _ _ _ _ _ _ _ (by decide))).mono ?_; rintro e w10 ⟨rfl, h6⟩; clear h5)
    | (go_at_call 39; refine (at_prog (-1) _ _ h6 (by decide) (by decide) (by decide) (by decide) (S_prog_none _ _ _ _ _ _ _ _ (by decide))).mono ?_; rintro e w11 ⟨rfl, h7⟩; clear h6)
    | (go_at_call 39; refine (at_prog 1024 _ _ h7 (by decide) (by decide) (by decide) (by decide) (S_prog_none _ _ _ _ _ _ _ _ (by decide))).mono ?_; rintro e w12 ⟨rfl, h8⟩; clear h7)
    | (go_at_call 39; refine (at_prog 3 _ _ h8 (by decide) (by decide) (by decide) (by decide) (S_prog_none _ _ _ _ _ _ _ _ (by decide))).mono ?_; rintro e w13 ⟨rfl, h9⟩; clear h8)
    | (go_at_call 40; refine (at_erase (-1) _ h9 (by decide) (S_erase_none _ _ _ _ _ _ _ (by decide))).mono ?_; rintro e w14 ⟨rfl, h10⟩; clear h9)
    | (go_at_call 40; refine (at_erase 4 _ h10 (by decide) (S_erase_none _ _ _ _ _ _ _ (by decide))).mono ?_; rintro e w15 ⟨rfl, h11⟩; clear h10)
    | (go_at_call 37; refine (at_ops 2 h11 rfl).mono ?_; rintro e w16 ⟨rfl, rfl⟩)
    | (go_at_call 35; refine (at_read 248 10 _ h11 (by omega) (S_read _ _ _ _ _ _ 248 10 (by omega) _ l2_read)).mono ?_; rintro e w17 ⟨rfl, rfl⟩)
    | (go_at_call 39; refine (at_prog 1016 _ _ h11 (by decide) (by decide) (by decide) (by decide) P3.out).mono ?_; rintro e w18 ⟨rfl, h12⟩; clear h11)
    | (go_at_call 39; refine (at_prog 256 _ _ h12 (by decide) (by decide) (by decide) (by decide) P4.out).mono ?_; rintro e w19 ⟨rfl, h13⟩; clear h12)
    | (go_at_call 40; refine (at_erase 0 _ h13 (by decide) P5.out).mono ?_; rintro e w20 ⟨rfl, h14⟩; clear h13)
    | (go_at_call 35; refine (at_read 0 1024 lend h14 (by omega) l5_lend).mono ?_; rintro e w21 ⟨rfl, rfl⟩)
    | (go_at_call 36; refine (at_filled 256 f256 h14 (by omega) rfl).mono ?_; rintro e w22 ⟨rfl, h15⟩; clear h14)
    | (go_at_call 36; refine (at_filled 759 f759 h15 (by omega) rfl).mono ?_; rintro e w23 ⟨rfl, h16⟩; clear h15)
    | (go_at_call 37; refine (at_ops 5 h16 rfl).mono ?_; rintro e w24 ⟨rfl, rfl⟩))
  go_ret
  exact ⟨rfl, h16.bel⟩
end Go.Proofs.Ytcokahccbjdeaaa
