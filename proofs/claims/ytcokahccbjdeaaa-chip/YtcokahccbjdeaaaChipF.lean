import Derived.Test.YtcokahccbjdeaaaChipE
namespace Go.Proofs.Ytcokahccbjdeaaa
open Go.RowKit

def eraseC (f : Nat → UInt8) (o n : Nat) (l : List UInt8) : List UInt8 := l.mapIdx fun i x => if o ≤ i ∧ i < o + n then x ||| f (i - o) else x
def progC (f : Nat → UInt8) (o n : Nat) (d : List UInt8) (l : List UInt8) : List UInt8 := l.mapIdx fun i x => if o ≤ i ∧ i < o + n then x &&& (d.getD (i - o) 0 ||| ~~~ f (i - o)) else x
theorem eraseN_eq (f : Nat → UInt8) (o n : Nat) (l : List UInt8) : eraseN f o n l = eraseC f o n l := by
  induction n with
  | zero => 
    show l = _
    unfold eraseC
    apply List.ext_getElem? ; intro i
    rw [List.getElem?_mapIdx]
    have : ∀ x : UInt8, (if o ≤ i ∧ i < o + 0 then x ||| f (i - o) else x) = x := fun x => if_neg (by omega)
    simp only [this]; simp
  | succ n ih =>
    show (eraseN f o n l).set (o + n) ((eraseN f o n l).getD (o + n) 0 ||| f n) = _
    rw [ih]
    apply List.ext_getElem? ; intro i
    rw [List.getElem?_set]
    by_cases h : o + n = i
    · subst h
      rw [if_pos rfl]
      unfold eraseC
      simp only [List.length_mapIdx, List.getElem?_mapIdx, List.getD_eq_getElem?_getD]
      by_cases hl : o + n < l.length
      · rw [if_pos hl, List.getElem?_eq_getElem hl]
        simp only [Option.map_some, Option.getD_some]
        rw [if_neg (by omega), if_pos (by omega)]
        simp
      · rw [if_neg hl, List.getElem?_eq_none (by omega)]; rfl
    · rw [if_neg h]
      unfold eraseC
      simp only [List.getElem?_mapIdx]
      have : ∀ x : UInt8, (if o ≤ i ∧ i < o + n then x ||| f (i - o) else x) = (if o ≤ i ∧ i < o + (n + 1) then x ||| f (i - o) else x) := fun x => by
        by_cases h2 : o ≤ i ∧ i < o + n
        · rw [if_pos h2, if_pos (by omega)]
        · rw [if_neg h2, if_neg (by omega)]
      simp only [this]
theorem progN_eq (f : Nat → UInt8) (o n : Nat) (d : ByteArray) (l : List UInt8) : progN f o d n l = progC f o n d.data.toList l := by
  induction n with
  | zero => 
    show l = _
    unfold progC
    apply List.ext_getElem? ; intro i
    rw [List.getElem?_mapIdx]
    have : ∀ x : UInt8, (if o ≤ i ∧ i < o + 0 then x &&& (d.data.toList.getD (i - o) 0 ||| ~~~ f (i - o)) else x) = x := fun x => if_neg (by omega)
    simp only [this]; simp
  | succ n ih =>
    show (progN f o d n l).set (o + n) ((progN f o d n l).getD (o + n) 0 &&& (d.data.toList.getD n 0 ||| ~~~ f n)) = _
    rw [ih]
    apply List.ext_getElem? ; intro i
    rw [List.getElem?_set]
    by_cases h : o + n = i
    · subst h
      rw [if_pos rfl]
      unfold progC
      simp only [List.length_mapIdx, List.getElem?_mapIdx, List.getD_eq_getElem?_getD]
      by_cases hl : o + n < l.length
      · rw [if_pos hl, List.getElem?_eq_getElem hl]
        simp only [Option.map_some, Option.getD_some]
        rw [if_neg (by omega), if_pos (by omega)]
        simp
      · rw [if_neg hl, List.getElem?_eq_none (show l.length ≤ o + n by omega)]; rfl
    · rw [if_neg h]
      unfold progC
      simp only [List.getElem?_mapIdx]
      have : ∀ x : UInt8, (if o ≤ i ∧ i < o + n then x &&& (d.data.toList.getD (i - o) 0 ||| ~~~ f (i - o)) else x) = (if o ≤ i ∧ i < o + (n + 1) then x &&& (d.data.toList.getD (i - o) 0 ||| ~~~ f (i - o)) else x) := fun x => by
        by_cases h2 : o ≤ i ∧ i < o + n
        · rw [if_pos h2, if_pos (by omega)]
        · rw [if_neg h2, if_neg (by omega)]
      simp only [this]


/-- A chip told by a function: byte i is F i. -/
def S (F : Nat → UInt8) (ar : Bool) (lf : Int) (tn : ByteArray) (dd : Bool) (op : Int) : ChipS := ⟨(List.range 1024).map F, ar, lf, tn, dd, op⟩

def progF (F : Nat → UInt8) (m : Nat → UInt8) (o : Nat) (d : List UInt8) (i : Nat) : UInt8 := if o ≤ i ∧ i < o + d.length then F i &&& (d.getD (i - o) 0 ||| ~~~ m (i - o)) else F i
def eraseF (F : Nat → UInt8) (m : Nat → UInt8) (o : Nat) (i : Nat) : UInt8 := if o ≤ i ∧ i < o + 256 then F i ||| m (i - o) else F i
def maskF (tn : List UInt8) (k : Nat) : UInt8 := if tn.length = 0 then 0 else tn.getD (k % tn.length) 0

theorem progC_map (F m : Nat → UInt8) (o : Nat) (d : List UInt8) : progC m o d.length d ((List.range 1024).map F) = (List.range 1024).map (progF F m o d) := by
  unfold progC
  apply List.ext_getElem?; intro i
  simp only [List.getElem?_mapIdx, List.getElem?_map]
  by_cases h : i < 1024
  · rw [List.getElem?_range h]; simp [progF]
  · rw [List.getElem?_eq_none (by simp; omega)]; rfl
theorem eraseC_map (F m : Nat → UInt8) (o : Nat) : eraseC m o 256 ((List.range 1024).map F) = (List.range 1024).map (eraseF F m o) := by
  unfold eraseC
  apply List.ext_getElem?; intro i
  simp only [List.getElem?_mapIdx, List.getElem?_map]
  by_cases h : i < 1024
  · rw [List.getElem?_range h]; simp [eraseF]
  · rw [List.getElem?_eq_none (by simp; omega)]; rfl

section
variable (F : Nat → UInt8) (lf : Int) (tn : ByteArray) (op : Int) (o : Nat) (d : ByteArray) (s : Nat)
theorem S_prog_none (ar dd : Bool) (o : Int) (hbad : d.size < 1 ∨ 8 < d.size ∨ o < 0 ∨ 1024 ≤ o ∨ 256 < o % 256 + d.size) : (S F ar lf tn dd op).program o d = S F ar lf tn dd op := by
  unfold ChipS.program; rw [if_pos hbad]
set_option maxRecDepth 20000 in
theorem S_prog (hok : ¬ (d.size < 1 ∨ 8 < d.size ∨ (o : Int) < 0 ∨ 1024 ≤ (o : Int) ∨ 256 < (o : Int) % 256 + d.size)) :
    (S F false lf tn false op).program o d = S (progF F (fun _ => 255) o d.data.toList) false lf tn false (op + 1) := by
  unfold ChipS.program; rw [if_neg hok]
  simp only [ChipS.begins, S, ChipS.done, progN_eq, Int.toNat_natCast]
  rw [← progC_map]; simp
set_option maxRecDepth 20000 in
theorem S_prog_armed (hlf : 0 < lf) (hok : ¬ (d.size < 1 ∨ 8 < d.size ∨ (o : Int) < 0 ∨ 1024 ≤ (o : Int) ∨ 256 < (o : Int) % 256 + d.size)) :
    (S F true lf tn false op).program o d = S (progF F (fun _ => 255) o d.data.toList) true (lf - 1) tn false (op + 1) := by
  unfold ChipS.program; rw [if_neg hok]
  simp only [ChipS.begins, S, ChipS.done, progN_eq, Int.toNat_natCast]
  rw [← progC_map]; simp [hlf]
theorem done_mask (l : List UInt8) (ar : Bool) (lf : Int) (tn : ByteArray) (dd : Bool) (op : Int) : (fun k => (ChipS.mk l ar lf tn dd op).done k true) = maskF tn.data.toList := by
  funext k
  have : tn.data.toList.length = tn.size := rfl
  simp only [ChipS.done, maskF, this]; rfl
set_option maxRecDepth 20000 in
theorem S_prog_torn (hlf : ¬ 0 < lf) (hok : ¬ (d.size < 1 ∨ 8 < d.size ∨ (o : Int) < 0 ∨ 1024 ≤ (o : Int) ∨ 256 < (o : Int) % 256 + d.size)) :
    (S F true lf tn false op).program o d = S (progF F (maskF tn.data.toList) o d.data.toList) true lf tn true (op + 1) := by
  unfold ChipS.program; rw [if_neg hok]
  have hb : (S F true lf tn false op).begins = (S F true lf tn true (op + 1), true, true) := by simp [ChipS.begins, S, hlf]
  rw [hb, if_pos rfl, Int.toNat_natCast, progN_eq]
  have e : (fun k => (S F true lf tn true (op + 1)).done k true) = maskF tn.data.toList := done_mask _ _ _ _ _ _
  show ({ S F true lf tn true (op + 1) with cells := progC (fun k => (S F true lf tn true (op + 1)).done k true) o d.data.toList.length d.data.toList ((List.range 1024).map F) } : ChipS) = _
  rw [e, progC_map]; rfl
theorem S_prog_dead (ar : Bool) (o : Int) : (S F ar lf tn true op).program o d = S F ar lf tn true op := by
  unfold ChipS.program
  split
  · rfl
  · simp [ChipS.begins, S]
theorem S_erase_none (ar dd : Bool) (s : Int) (hbad : s < 0 ∨ 4 ≤ s) : (S F ar lf tn dd op).erase s = S F ar lf tn dd op := by
  unfold ChipS.erase; rw [if_pos hbad]
set_option maxRecDepth 20000 in
theorem S_erase (hs : s < 4) : (S F false lf tn false op).erase s = S (eraseF F (fun _ => 255) (s * 256)) false lf tn false (op + 1) := by
  unfold ChipS.erase; rw [if_neg (by omega)]
  simp only [ChipS.begins, S, ChipS.done, eraseN_eq, Int.toNat_natCast]
  rw [← eraseC_map]; simp
set_option maxRecDepth 20000 in
theorem S_erase_torn (hlf : ¬ 0 < lf) (hs : s < 4) : (S F true lf tn false op).erase s = S (eraseF F (maskF tn.data.toList) (s * 256)) true lf tn true (op + 1) := by
  unfold ChipS.erase; rw [if_neg (by omega)]
  have hb : (S F true lf tn false op).begins = (S F true lf tn true (op + 1), true, true) := by simp [ChipS.begins, S, hlf]
  rw [hb, if_pos rfl, Int.toNat_natCast, eraseN_eq]
  have e : (fun k => (S F true lf tn true (op + 1)).done k true) = maskF tn.data.toList := done_mask _ _ _ _ _ _
  show ({ S F true lf tn true (op + 1) with cells := eraseC (fun k => (S F true lf tn true (op + 1)).done k true) (s * 256) 256 ((List.range 1024).map F) } : ChipS) = _
  rw [e, eraseC_map]; rfl
theorem S_erase_dead (ar : Bool) (s : Int) : (S F ar lf tn true op).erase s = S F ar lf tn true op := by
  unfold ChipS.erase
  split
  · rfl
  · simp [ChipS.begins, S]
set_option maxRecDepth 20000 in
theorem S_read (ar dd : Bool) (o n : Nat) (h : o + n ≤ 1024) (G : List UInt8) (hG : (List.range n).map (fun j => F (o + j)) = G) : (S F ar lf tn dd op).read o n = ⟨G.toArray⟩ := by
  unfold ChipS.read
  rw [if_neg (by omega), ← hG]
  congr 1
  show ((List.range 1024).map F |>.drop o |>.take n).toArray = _
  congr 1
  apply List.ext_getElem?; intro i
  rw [List.getElem?_take]
  split
  · rw [List.getElem?_drop, List.getElem?_map, List.getElem?_range (by omega), List.getElem?_map, List.getElem?_range (by omega)]; rfl
  · rw [List.getElem?_eq_none (by simp; omega)]
end

set_option maxRecDepth 20000 in
theorem new_S : newChip = S (fun _ => 255) false 0 ByteArray.empty false 0 := by
  show (⟨List.replicate 1024 255, false, 0, ByteArray.empty, false, 0⟩ : ChipS) = ⟨(List.range 1024).map (fun _ => 255), false, 0, ByteArray.empty, false, 0⟩
  have : List.replicate 1024 (255 : UInt8) = (List.range 1024).map (fun _ => 255) := by
    rw [List.map_const', List.length_range]
  rw [this]

/-! the chip of 'laid' -/
def l1 : Nat → UInt8 := progF (fun _ => 255) (fun _ => 255) 250 [15, 240, 255, 0, 170, 85]
def l2 : Nat → UInt8 := progF l1 (fun _ => 255) 250 [243, 243]
def l3 : Nat → UInt8 := progF l2 (fun _ => 255) 1016 [1, 2, 3, 4, 5, 6, 7, 8]
def l4 : Nat → UInt8 := progF l3 (fun _ => 255) 256 [97]
def l5 : Nat → UInt8 := eraseF l4 (fun _ => 255) 0
theorem l2_read : (List.range 10).map (fun j => l2 (248 + j)) = [255, 255, 3, 240, 255, 0, 170, 85, 255, 255] := by decide +kernel
theorem l5_read : (List.range 1024).map (fun j => l5 (0 + j)) = ((List.replicate 256 255 ++ [97]) ++ List.replicate 759 255) ++ [1, 2, 3, 4, 5, 6, 7, 8] := by decide +kernel
/-! the chip of 'torn' -/
def t1 : Nat → UInt8 := progF (fun _ => 255) (fun _ => 255) 8 [0, 0, 0, 0]
def t2 : Nat → UInt8 := progF t1 (fun _ => 255) 0 [0, 0, 0]
def t3 : Nat → UInt8 := progF t2 (maskF [240, 15]) 4 [51, 51, 51]
def t4 : Nat → UInt8 := eraseF t3 (maskF [1, 2, 128]) 0
def t5 : Nat → UInt8 := eraseF t4 (maskF []) 0
def t6 : Nat → UInt8 := eraseF t5 (fun _ => 255) 0
theorem t3_read : (List.range 20).map (fun j => t3 (0 + j)) = [0, 0, 0, 255, 63, 243, 63, 255, 0, 0, 0, 0] ++ List.replicate 8 255 := by decide +kernel
theorem t4_read : (List.range 12).map (fun j => t4 (0 + j)) = [1, 2, 128, 255, 63, 243, 63, 255, 128, 1, 2, 128] := by decide +kernel
theorem t5_read : (List.range 3).map (fun j => t5 (0 + j)) = [1, 2, 128] := by decide +kernel
theorem t6_read : (List.range 256).map (fun j => t6 (0 + j)) = List.replicate 256 255 := by decide +kernel
end Go.Proofs.Ytcokahccbjdeaaa
