import Derived.Test.YtcokahccbjdeaaaRows
import Derived.WalkKit
import Derived.WalkSpells
import Derived.WalkLawsBesides
namespace Go.Proofs.Ytcokahccbjdeaaa
open Go.RowKit

/-- All blocks but those in S are as they were. -/
structure Only (S : Nat → Prop) (w w' : World) : Prop where
  os : w'.os = w.os
  tape : w'.tape = w.tape
  output : w'.output = w.output
  size : w.heap.size ≤ w'.heap.size
  block : ∀ k, k < w.heap.size → ¬ S k → w'.heap[k]? = w.heap[k]?

theorem Only.refl (S : Nat → Prop) (w : World) : Only S w w := ⟨rfl, rfl, rfl, Nat.le_refl _, fun _ _ _ => rfl⟩
theorem Only.trans {S : Nat → Prop} {a b c : World} (h : Only S a b) (k : Only S b c) : Only S a c :=
  ⟨k.os.trans h.os, k.tape.trans h.tape, k.output.trans h.output, Nat.le_trans h.size k.size, fun i hi hs => (k.block i (Nat.lt_of_lt_of_le hi h.size) hs).trans (h.block i hi hs)⟩
theorem Only.mono {S T : Nat → Prop} {a b : World} (h : Only S a b) (hst : ∀ k, S k → T k) : Only T a b :=
  ⟨h.os, h.tape, h.output, h.size, fun i hi hs => h.block i hi (fun x => hs (hst i x))⟩
theorem Only.setCell {S : Nat → Prop} {a w : World} (h : Only S a w) {p : Addr} (hp : S p.block) (u : Value) : Only S a (w.setCell p u) :=
  h.trans ⟨rfl, rfl, rfl, by simp [World.setCell], fun k _ hs => Below.heap_setCell _ _ _ _ (fun e => hs (e ▸ hp))⟩
theorem Only.alloc {S : Nat → Prop} {a w : World} (h : Only S a w) (o : Obj) : Only S a (w.alloc o) :=
  h.trans ⟨rfl, rfl, rfl, by simp, fun k hk _ => Below.heap_alloc _ _ _ hk⟩
theorem Only.drew {S : Nat → Prop} {a w : World} (h : Only S a w) : Only S a w.drew := ⟨h.os, h.tape, h.output, h.size, h.block⟩
theorem Only.drewN {S : Nat → Prop} {a w : World} (h : Only S a w) (n : Nat) : Only S a (w.drewN n) := ⟨h.os, h.tape, h.output, h.size, h.block⟩
theorem Only.below {S : Nat → Prop} {B : Nat} {a w : World} (h : Only S a w) (hB : B ≤ a.heap.size) (hS : ∀ k, S k → B ≤ k) : Below B a w :=
  ⟨h.os, h.tape, h.output, h.size, fun k hk => h.block k (by omega) (fun s => by have := hS k s; omega)⟩
theorem Only.of_below {a w : World} (S : Nat → Prop) (h : Below a.heap.size a w) : Only S a w :=
  ⟨h.os, h.tape, h.output, h.size, fun k hk _ => h.block k hk⟩

/-- a store, block by block -/
theorem heap_setCell_at (w : World) (b o : Nat) (c : Array Value) (e : TypeId) (fz : Nat × Nat) (v : Value) (h : w.heap[b]? = some (.cells c e fz)) :
    (w.setCell ⟨b, o, none⟩ v).heap[b]? = some (.cells (c.setIfInBounds o v) e fz) := by
  simp [World.setCell, Array.getElem?_modify, h]
theorem heap_setCell_ne (w : World) (b k o : Nat) (v : Value) (h : k ≠ b) : (w.setCell ⟨b, o, none⟩ v).heap[k]? = w.heap[k]? := Below.heap_setCell _ _ _ _ h
theorem cell_of_heap {w : World} {b o : Nat} {c : Array Value} {e : TypeId} {fz : Nat × Nat} (h : w.heap[b]? = some (.cells c e fz)) : w.cell? ⟨b, o, none⟩ = c[o]? := by
  simp [World.cell?, h]
theorem free_of_heap {w : World} {b o : Nat} {c : Array Value} {e : TypeId} (h : w.heap[b]? = some (.cells c e (0, 0))) : w.frozen? ⟨b, o, none⟩ = false := by
  simp [World.frozen?, h]

structure ChipS where
  cells : List UInt8
  armed : Bool
  left : Int
  torn : ByteArray
  dead : Bool
  ops : Int

def bytesV (l : List UInt8) : Array Value := (l.map fun x => Value.int .u8 (x.toNat : Int)).toArray
def chipV (g : Nat) (c : ChipS) : Array Value := #[.slice (some ⟨g, 0, none⟩) 1024 1024, .bool c.armed, .int .i64 c.left, .string c.torn, .bool c.dead, .int .i64 c.ops]

structure ChipAt (w : World) (b g : Nat) (c : ChipS) : Prop where
  hb : w.heap[b]? = some (.cells (chipV g c) 71 (0, 0))
  hg : w.heap[g]? = some (.cells (bytesV c.cells) 5 (0, 0))
  len : c.cells.length = 1024
  ops0 : 0 ≤ c.ops
  left1 : c.left < 9223372036854775808
  left0 : -9223372036854775808 ≤ c.left
  tn : c.torn.size < 4611686018427387904

theorem ChipAt.ne {w : World} {b g : Nat} {c : ChipS} (h : ChipAt w b g c) : b ≠ g := by
  intro e; subst e; have := h.hb; rw [h.hg] at this; simp at this

def ChipS.begins (c : ChipS) : ChipS × Bool × Bool :=
  if c.dead then (c, false, false)
  else if c.armed = false then ({ c with ops := c.ops + 1 }, true, false)
  else if 0 < c.left then ({ c with ops := c.ops + 1, left := c.left - 1 }, true, false)
  else ({ c with ops := c.ops + 1, dead := true }, true, true)

set_option maxHeartbeats 1000000 in
theorem begins_any (w : World) (b g : Nat) (c : ChipS) (h : ChipAt w b g c) (hops : c.ops < 4611686018427387904) :
    Calls Try.prog 54 #[.pointer (some ⟨b, 0, none⟩)] w fun e w' => e = .returned (.tuple #[.bool c.begins.2.1, .bool c.begins.2.2]) ∧
      (w'.heap[b]? = some (.cells (chipV g c.begins.1) 71 (0, 0)) ∧ Only (· = b) w w' ∧ w'.heap.size = w.heap.size) := by
  obtain ⟨l, ar, lf, tn, dd, op⟩ := c
  obtain ⟨hb, hg, hl, h0, h2, h3, h4⟩ := h
  simp only [chipV] at *
  have c1 : w.cell? ⟨b, 1, none⟩ = some (.bool ar) := by rw [cell_of_heap hb]; rfl
  have c2 : w.cell? ⟨b, 2, none⟩ = some (.int .i64 lf) := by rw [cell_of_heap hb]; rfl
  have c4 : w.cell? ⟨b, 4, none⟩ = some (.bool dd) := by rw [cell_of_heap hb]; rfl
  have c5 : w.cell? ⟨b, 5, none⟩ = some (.int .i64 op) := by rw [cell_of_heap hb]; rfl
  have f : ∀ o, w.frozen? ⟨b, o, none⟩ = false := fun o => free_of_heap hb
  cases dd
  · cases ar
    · go_enter Try.func54, Try.ntmps54
      go_wp2
      go_ret2
      refine ⟨rfl, ?_, by repeat (first | exact Only.refl _ _ | refine Only.setCell ?_ (by exact rfl) _), ?_⟩
      · rw [heap_setCell_at _ _ _ _ _ _ _ hb]; simp [ChipS.begins]
      · simp
    · by_cases hlf : 0 < lf
      · go_enter Try.func54, Try.ntmps54
        go_wp2
        go_ret2
        refine ⟨by simp [ChipS.begins, hlf], ?_, by repeat (first | exact Only.refl _ _ | refine Only.setCell ?_ (by exact rfl) _), ?_⟩
        · rw [heap_setCell_at _ _ _ _ _ _ _ (heap_setCell_at _ _ _ _ _ _ _ hb)]; simp [ChipS.begins, hlf]
        · simp
      · go_enter Try.func54, Try.ntmps54
        go_wp2
        go_ret2
        have hn : ¬ 0 < lf := by omega
        refine ⟨by simp [ChipS.begins, hn], ?_, by repeat (first | exact Only.refl _ _ | refine Only.setCell ?_ (by exact rfl) _), ?_⟩
        · rw [heap_setCell_at _ _ _ _ _ _ _ (heap_setCell_at _ _ _ _ _ _ _ hb)]; simp [ChipS.begins, hn]
        · simp
  · go_enter Try.func54, Try.ntmps54
    go_wp2
    go_ret2
    exact ⟨rfl, hb, Only.refl _ _, rfl⟩
end Go.Proofs.Ytcokahccbjdeaaa
