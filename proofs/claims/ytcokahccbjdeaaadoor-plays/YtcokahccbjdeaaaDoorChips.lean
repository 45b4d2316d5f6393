import Derived.Test.YtcokahccbjdeaaaDoorRows
import Derived.WalkKit
import Derived.WalkSpells
import Derived.WalkLawsBesides
import Derived.Deep.QuietTactic
import Derived.BigQuiet
namespace Go.Proofs.YtcokahccbjdeaaaDoor
open Go.RowKit

/-- All blocks but those in S are as they were. -/
structure Only (S : Nat → Prop) (w w' : World) : Prop where
  os : w'.os = w.os
  tape : w'.tape = w.tape
  output : w'.output = w.output
  size : w.heap.size ≤ w'.heap.size
  block : ∀ k, k < w.heap.size → ¬ S k → w'.heap[k]? = w.heap[k]?

theorem Only.refl (S : Nat → Prop) (w : World) : Only S w w := ⟨rfl, rfl, rfl, Nat.le_refl _, fun _ _ _ => rfl⟩
theorem Only.trans {S : Nat → Prop} {a b c : World} (h : Only S a b) (k : Only S b c) : Only S a c :=
  ⟨k.os.trans h.os, k.tape.trans h.tape, k.output.trans h.output, Nat.le_trans h.size k.size, fun i hi hs => (k.block i (Nat.lt_of_lt_of_le hi h.size) hs).trans (h.block i hi hs)⟩
theorem Only.mono {S T : Nat → Prop} {a b : World} (h : Only S a b) (hst : ∀ k, S k → T k) : Only T a b :=
  ⟨h.os, h.tape, h.output, h.size, fun i hi hs => h.block i hi (fun x => hs (hst i x))⟩
theorem Only.setCell {S : Nat → Prop} {a w : World} (h : Only S a w) {p : Addr} (hp : S p.block) (u : Value) : Only S a (w.setCell p u) :=
  h.trans ⟨rfl, rfl, rfl, by simp [World.setCell], fun k _ hs => Below.heap_setCell _ _ _ _ (fun e => hs (e ▸ hp))⟩
theorem Only.alloc {S : Nat → Prop} {a w : World} (h : Only S a w) (o : Obj) : Only S a (w.alloc o) :=
  h.trans ⟨rfl, rfl, rfl, by simp, fun k hk _ => Below.heap_alloc _ _ _ hk⟩
theorem Only.drew {S : Nat → Prop} {a w : World} (h : Only S a w) : Only S a w.drew := ⟨h.os, h.tape, h.output, h.size, h.block⟩
theorem Only.drewN {S : Nat → Prop} {a w : World} (h : Only S a w) (n : Nat) : Only S a (w.drewN n) := ⟨h.os, h.tape, h.output, h.size, h.block⟩
theorem Only.below {S : Nat → Prop} {B : Nat} {a w : World} (h : Only S a w) (hB : B ≤ a.heap.size) (hS : ∀ k, S k → B ≤ k) : Below B a w :=
  ⟨h.os, h.tape, h.output, h.size, fun k hk => h.block k (by omega) (fun s => by have := hS k s; omega)⟩
theorem Only.of_below {a w : World} (S : Nat → Prop) (h : Below a.heap.size a w) : Only S a w :=
  ⟨h.os, h.tape, h.output, h.size, fun k hk _ => h.block k hk⟩

/-- a store, block by block -/
theorem heap_setCell_at (w : World) (b o : Nat) (c : Array Value) (e : TypeId) (fz : Nat × Nat) (v : Value) (h : w.heap[b]? = some (.cells c e fz)) :
    (w.setCell ⟨b, o, none⟩ v).heap[b]? = some (.cells (c.setIfInBounds o v) e fz) := by
  simp [World.setCell, Array.getElem?_modify, h]
theorem heap_setCell_ne (w : World) (b k o : Nat) (v : Value) (h : k ≠ b) : (w.setCell ⟨b, o, none⟩ v).heap[k]? = w.heap[k]? := Below.heap_setCell _ _ _ _ h
theorem cell_of_heap {w : World} {b o : Nat} {c : Array Value} {e : TypeId} {fz : Nat × Nat} (h : w.heap[b]? = some (.cells c e fz)) : w.cell? ⟨b, o, none⟩ = c[o]? := by
  simp [World.cell?, h]
theorem free_of_heap {w : World} {b o : Nat} {c : Array Value} {e : TypeId} (h : w.heap[b]? = some (.cells c e (0, 0))) : w.frozen? ⟨b, o, none⟩ = false := by
  simp [World.frozen?, h]

structure ChipS where
  cells : List UInt8
  armed : Bool
  left : Int
  torn : ByteArray
  dead : Bool
  ops : Int

def bytesV (l : List UInt8) : Array Value := (l.map fun x => Value.int .u8 (x.toNat : Int)).toArray
def chipV (g : Nat) (c : ChipS) : Array Value := #[.slice (some ⟨g, 0, none⟩) 1024 1024, .bool c.armed, .int .i64 c.left, .string c.torn, .bool c.dead, .int .i64 c.ops]

structure ChipAt (w : World) (b g : Nat) (c : ChipS) : Prop where
  hb : w.heap[b]? = some (.cells (chipV g c) 118 (0, 0))
  hg : w.heap[g]? = some (.cells (bytesV c.cells) 5 (0, 0))
  len : c.cells.length = 1024
  ops0 : 0 ≤ c.ops
  left1 : c.left < 9223372036854775808
  left0 : -9223372036854775808 ≤ c.left
  tn : c.torn.size < 4611686018427387904

theorem ChipAt.ne {w : World} {b g : Nat} {c : ChipS} (h : ChipAt w b g c) : b ≠ g := by
  intro e; subst e; have := h.hb; rw [h.hg] at this; simp at this

def ChipS.begins (c : ChipS) : ChipS × Bool × Bool :=
  if c.dead then (c, false, false)
  else if c.armed = false then ({ c with ops := c.ops + 1 }, true, false)
  else if 0 < c.left then ({ c with ops := c.ops + 1, left := c.left - 1 }, true, false)
  else ({ c with ops := c.ops + 1, dead := true }, true, true)

set_option maxHeartbeats 1000000 in
theorem begins_any (w : World) (b g : Nat) (c : ChipS) (h : ChipAt w b g c) (hops : c.ops < 4611686018427387904) :
    Calls Tryd.prog 85 #[.pointer (some ⟨b, 0, none⟩)] w fun e w' => e = .returned (.tuple #[.bool c.begins.2.1, .bool c.begins.2.2]) ∧
      (w'.heap[b]? = some (.cells (chipV g c.begins.1) 118 (0, 0)) ∧ Only (· = b) w w' ∧ w'.heap.size = w.heap.size) := by
  obtain ⟨l, ar, lf, tn, dd, op⟩ := c
  obtain ⟨hb, hg, hl, h0, h2, h3, h4⟩ := h
  simp only [chipV] at *
  have c1 : w.cell? ⟨b, 1, none⟩ = some (.bool ar) := by rw [cell_of_heap hb]; rfl
  have c2 : w.cell? ⟨b, 2, none⟩ = some (.int .i64 lf) := by rw [cell_of_heap hb]; rfl
  have c4 : w.cell? ⟨b, 4, none⟩ = some (.bool dd) := by rw [cell_of_heap hb]; rfl
  have c5 : w.cell? ⟨b, 5, none⟩ = some (.int .i64 op) := by rw [cell_of_heap hb]; rfl
  have f : ∀ o, w.frozen? ⟨b, o, none⟩ = false := fun o => free_of_heap hb
  cases dd
  · cases ar
    · go_enter Tryd.func85, Tryd.ntmps85
      go_wp2
      go_ret2
      refine ⟨rfl, ?_, by repeat (first | exact Only.refl _ _ | refine Only.setCell ?_ (by exact rfl) _), ?_⟩
      · rw [heap_setCell_at _ _ _ _ _ _ _ hb]; simp [ChipS.begins]
      · simp
    · by_cases hlf : 0 < lf
      · go_enter Tryd.func85, Tryd.ntmps85
        go_wp2
        go_ret2
        refine ⟨by simp [ChipS.begins, hlf], ?_, by repeat (first | exact Only.refl _ _ | refine Only.setCell ?_ (by exact rfl) _), ?_⟩
        · rw [heap_setCell_at _ _ _ _ _ _ _ (heap_setCell_at _ _ _ _ _ _ _ hb)]; simp [ChipS.begins, hlf]
        · simp
      · go_enter Tryd.func85, Tryd.ntmps85
        go_wp2
        go_ret2
        have hn : ¬ 0 < lf := by omega
        refine ⟨by simp [ChipS.begins, hn], ?_, by repeat (first | exact Only.refl _ _ | refine Only.setCell ?_ (by exact rfl) _), ?_⟩
        · rw [heap_setCell_at _ _ _ _ _ _ _ (heap_setCell_at _ _ _ _ _ _ _ hb)]; simp [ChipS.begins, hn]
        · simp
  · go_enter Tryd.func85, Tryd.ntmps85
    go_wp2
    go_ret2
    exact ⟨rfl, hb, Only.refl _ _, rfl⟩
end Go.Proofs.YtcokahccbjdeaaaDoor

namespace Go.Proofs.YtcokahccbjdeaaaDoor
open Go.RowKit

theorem ret_int {k : IntKind} {a b : Int} (h : a = b) : Ending.returned (.int k a) = .returned (.int k b) := by rw [h]
theorem ret_str {a b : ByteArray} (h : a = b) : Ending.returned (.string a) = .returned (.string b) := by rw [h]
theorem ba_getD (s : ByteArray) (k : Nat) (h : k < s.size) : s.data.toList.getD k 0 = s[k] := by
  have : k < s.data.toList.length := by simpa using h
  rw [List.getD_eq_getElem?_getD, List.getElem?_eq_getElem this]; rfl

def ChipS.done (c : ChipS) (i : Nat) (cut : Bool) : UInt8 :=
  if cut = false then 255 else if c.torn.size = 0 then 0 else c.torn.data.toList.getD (i % c.torn.size) 0

set_option maxHeartbeats 1000000 in
theorem done_any (w : World) (b g : Nat) (c : ChipS) (i : Nat) (cut : Bool) (hi : i < 4611686018427387904) (h : ChipAt w b g c) :
    Calls Tryd.prog 86 #[.pointer (some ⟨b, 0, none⟩), .int .i64 i, .bool cut] w fun e w' => e = .returned (.int .u8 (c.done i cut).toNat) ∧ ∃ n, w' = w.drewN n := by
  obtain ⟨l, ar, lf, tn, dd, op⟩ := c
  obtain ⟨hb, hg, hl, h0, h2, h3, h4⟩ := h
  simp only [chipV] at *
  have c3 : w.cell? ⟨b, 3, none⟩ = some (.string tn) := by rw [cell_of_heap hb]; rfl
  clear hb hg hl h0 h2 h3
  cases cut
  · go_enter Tryd.func86, Tryd.ntmps86
    go_wp2
    go_ret
    exact ⟨rfl, 0, rfl⟩
  · by_cases ht : tn.size = 0
    · have ht' : (tn.size : Int) = 0 := by omega
      go_enter Tryd.func86, Tryd.ntmps86
      go_wp2
      go_ret
      exact ⟨by simp [ChipS.done, ht], 0, rfl⟩
    · have ht' : ¬ (tn.size : Int) = 0 := by omega
      have hm1 : (i : Int) % tn.size < tn.size := Int.emod_lt_of_pos _ (by omega)
      have hm0 : 0 ≤ (i : Int) % tn.size := Int.emod_nonneg _ (by omega)
      have hm : i % tn.size < tn.size := Nat.mod_lt _ (by omega)
      have H : Hid ((ChipS.mk l ar lf tn dd op).done i true = tn[i % tn.size]) := by
        unfold ChipS.done Hid; rw [if_neg (by simp), if_neg ht]; exact ba_getD _ _ hm
      go_enter Tryd.func86, Tryd.ntmps86
      go_wp2
      go_quiet (fail)
      go_wp2
      go_ret
      exact ⟨ret_int (by rw [H.out]), nq, rfl⟩

def progN (f : Nat → UInt8) (o : Nat) (d : ByteArray) : Nat → List UInt8 → List UInt8
  | 0, l => l
  | k + 1, l => (progN f o d k l).set (o + k) ((progN f o d k l).getD (o + k) 0 &&& (d.data.toList.getD k 0 ||| ~~~ f k))

def ChipS.program (c : ChipS) (at_ : Int) (d : ByteArray) : ChipS :=
  if d.size < 1 ∨ 8 < d.size ∨ at_ < 0 ∨ 1024 ≤ at_ ∨ 256 < at_ % 256 + d.size then c
  else if c.begins.2.1 then { c.begins.1 with cells := progN (fun k => c.begins.1.done k c.begins.2.2) at_.toNat d d.size c.cells }
  else c.begins.1

theorem progN_length (f : Nat → UInt8) (o : Nat) (d : ByteArray) (k : Nat) (l : List UInt8) : (progN f o d k l).length = l.length := by
  induction k with
  | zero => rfl
  | succ k ih => simp [progN, ih]


theorem ChipAt.begun {w w' : World} {b g : Nat} {c : ChipS} (h : ChipAt w b g c) (hb' : w'.heap[b]? = some (.cells (chipV g c.begins.1) 118 (0, 0))) (ho : Only (· = b) w w') :
    ChipAt w' b g c.begins.1 := by
  have hne := h.ne
  have hlt : g < w.heap.size := by
    have := h.hg
    exact (Array.getElem?_eq_some_iff.1 this).1
  have hg' : w'.heap[g]? = some (.cells (bytesV c.cells) 5 (0, 0)) := by rw [ho.block g hlt (fun e => hne e.symm)]; exact h.hg
  have e1 : c.begins.1.cells = c.cells := by unfold ChipS.begins; (repeat' split) <;> rfl
  have e2 : c.begins.1.torn = c.torn := by unfold ChipS.begins; (repeat' split) <;> rfl
  have e3 : 0 ≤ c.begins.1.ops := by have := h.ops0; unfold ChipS.begins; (repeat' split) <;> simp <;> omega
  have e4 : c.begins.1.left < 9223372036854775808 ∧ -9223372036854775808 ≤ c.begins.1.left := by have := h.left0; have := h.left1; unfold ChipS.begins; (repeat' split) <;> simp <;> omega
  exact ⟨hb', by rw [e1]; exact hg', by rw [e1]; exact h.len, e3, e4.1, e4.2, by rw [e2]; exact h.tn⟩

theorem bytesV_get (l : List UInt8) (k : Nat) (h : k < l.length) : (bytesV l)[k]? = some (.int .u8 ((l.getD k 0).toNat : Int)) := by
  simp [bytesV, List.getD_eq_getElem?_getD, h]
theorem bytesV_set (l : List UInt8) (k : Nat) (x : UInt8) : (bytesV l).setIfInBounds k (.int .u8 (x.toNat : Int)) = bytesV (l.set k x) := by
  simp [bytesV]

theorem ChipAt.drewN {w : World} {b g : Nat} {c : ChipS} (h : ChipAt w b g c) (n : Nat) : ChipAt (w.drewN n) b g c := ⟨h.hb, h.hg, h.len, h.ops0, h.left1, h.left0, h.tn⟩
theorem ChipAt.drew {w : World} {b g : Nat} {c : ChipS} (h : ChipAt w b g c) : ChipAt w.drew b g c := ⟨h.hb, h.hg, h.len, h.ops0, h.left1, h.left0, h.tn⟩
theorem ChipAt.set {w : World} {b g : Nat} {c : ChipS} (h : ChipAt w b g c) (k : Nat) (x : UInt8) : ChipAt (w.setCell ⟨g, k, none⟩ (.int .u8 (x.toNat : Int))) b g { c with cells := c.cells.set k x } := by
  refine ⟨by rw [heap_setCell_ne _ _ _ _ _ h.ne]; exact h.hb, ?_, by simp [h.len], h.ops0, h.left1, h.left0, h.tn⟩
  rw [heap_setCell_at _ _ _ _ _ _ _ h.hg, bytesV_set]

theorem and_or_not (x y m : UInt8) : bits .and .u8 (x.toNat : Int) (bits .or .u8 (y.toNat : Int) (bits .xor .u8 (if IntKind.u8.signed = true then -1 else IntKind.u8.max) (m.toNat : Int))) = ((x &&& (y ||| ~~~ m)).toNat : Int) := by
  have hm : m.toNat < 256 := m.toNat_lt
  have e0 : (if IntKind.u8.signed = true then -1 else IntKind.u8.max) = ((255 : Nat) : Int) := rfl
  have e : bits .xor .u8 (if IntKind.u8.signed = true then -1 else IntKind.u8.max) (m.toNat : Int) = (((~~~ m).toNat : Nat) : Int) := by
    rw [e0, u8_xor_nat _ _ (by decide) hm]
    congr 1
  rw [e, u8_or_nat _ _ y.toNat_lt (UInt8.toNat_lt _)]
  have hlt : y.toNat ||| (~~~ m).toNat < 256 := by
    have := (y ||| ~~~ m).toNat_lt
    rwa [UInt8.toNat_or] at this
  rw [u8_and_nat _ _ x.toNat_lt hlt, UInt8.toNat_and, UInt8.toNat_or]
theorem getD_get (l : List UInt8) (k : Nat) (h : k < l.length) : l.getD k 0 = l[k] := by
  rw [List.getD_eq_getElem?_getD, List.getElem?_eq_getElem h]; rfl

set_option maxRecDepth 100000 in
set_option maxHeartbeats 2000000 in
theorem program_any (w : World) (b g : Nat) (c : ChipS) (o : Nat) (d : ByteArray) (ho : o < 1024) (hd1 : 1 ≤ d.size) (hd8 : d.size ≤ 8) (hod : o % 256 + d.size ≤ 256) (h : ChipAt w b g c) (hops : c.ops < 4611686018427387904) :
    Calls Tryd.prog 60 #[.pointer (some ⟨b, 0, none⟩), .int .i64 o, .string d] w fun e w' => e = .returned (.tuple #[]) ∧ ChipAt w' b g (c.program o d) ∧ Only (fun k => k = b ∨ k = g) w w' ∧ w'.heap.size = w.heap.size := by
  have c0 : w.cell? ⟨b, 0, none⟩ = some (.slice (some ⟨g, 0, none⟩) 1024 1024) := by rw [cell_of_heap h.hb]; rfl
  have hod' : (o : Int) % 256 + d.size ≤ 256 := by omega
  have hcl : c.begins.1.cells = c.cells := by unfold ChipS.begins; (repeat' split) <;> rfl
  have hP : Hid (c.program o d = if c.begins.2.1 then { c.begins.1 with cells := progN (fun k => c.begins.1.done k c.begins.2.2) o d d.size c.cells } else c.begins.1) := by
    unfold ChipS.program Hid; rw [if_neg (by omega)]; simp
  have HC : Hid (c.begins.1.cells = c.cells) := hcl
  clear hcl
  cases hgo : c.begins.2.1
  · go_enter Tryd.func60, Tryd.ntmps60
    go_wp2_with (go_at_call 85; refine (begins_any w b g c h hops).mono ?_; rintro e w' ⟨rfl, hb', honly, hsz⟩; simp only [hgo])
    have hcb := h.begun hb' honly
    refine bodyPost_ret (results_none rfl _ _ _) rfl ?_
    refine ⟨rfl, ?_, honly.mono (fun k hk => Or.inl hk), hsz⟩
    rw [hP.out, hgo]; exact hcb
  · go_enter Tryd.func60, Tryd.ntmps60
    go_wp2_with (go_at_call 85; refine (begins_any w b g c h hops).mono ?_; rintro e w' ⟨rfl, hb', honly, hsz⟩; simp only [hgo])
    have hcb := h.begun hb' honly
    clear hb' c0
    go_loopw [9, 10] (fun i m wr => ∃ k : Nat, k ≤ d.size ∧ i = .int .i64 k ∧ ChipAt wr b g { c.begins.1 with cells := progN (fun k => c.begins.1.done k c.begins.2.2) o d k c.cells } ∧ Only (fun k => k = b ∨ k = g) w wr ∧ wr.heap.size = w.heap.size) (fun i m _ => d.size - (intOf i).toNat)
    case atStart =>
      refine ⟨0, by omega, rfl, ?_, honly.mono (fun k hk => Or.inl hk), hsz⟩
      have := hcb
      rw [show ({ c.begins.1 with cells := progN (fun k => c.begins.1.done k c.begins.2.2) o d 0 c.cells } : ChipS) = c.begins.1 from by show ({ c.begins.1 with cells := c.cells } : ChipS) = _; rw [← HC.out]]
      exact hcb
    case round =>
      obtain ⟨k, hk, rfl, hc, hon, hs⟩ := hrel
      have HL : Hid (d.size ≤ 8) := hd8
      by_cases hlt : k < d.size
      · have hlen := hc.len
        simp only [progN_length] at hlen
        obtain ⟨l, hl⟩ : ∃ l, l = progN (fun k => c.begins.1.done k c.begins.2.2) o d k c.cells := ⟨_, rfl⟩
        have HLS : Hid (progN (fun k => c.begins.1.done k c.begins.2.2) o d (k + 1) c.cells = l.set (o + k) (l.getD (o + k) 0 &&& (d.data.toList.getD k 0 ||| ~~~ (c.begins.1.done k c.begins.2.2)))) := by rw [hl]; rfl
        rw [← hl] at hc
        have hll : l.length = 1024 := by rw [hl, progN_length]; exact hlen
        clear hl
        have hok : o + k < 1024 := by omega
        obtain ⟨cx, hcx⟩ : ∃ cx, cx = ({ c.begins.1 with cells := l } : ChipS) := ⟨_, rfl⟩
        have hdn : Hid (cx.done k c.begins.2.2 = c.begins.1.done k c.begins.2.2) := by rw [hcx]; rfl
        have hcl : Hid (cx.cells = l) := by rw [hcx]; rfl
        have HCX : Hid (cx = ({ c.begins.1 with cells := l } : ChipS)) := hcx
        rw [← hcx] at hc
        clear hcx
        have hdk : Hid (d.data.toList.getD k 0 = d[k]) := ba_getD d k hlt
        go_wp2_with (go_at_call 86; refine (done_any wr b g cx k c.begins.2.2 (by omega) hc).mono ?_; rintro e w2 ⟨rfl, n2, rfl⟩)
        have hcw := hc.drewN n2
        have honw := hon.drewN n2
        have hsw : (wr.drewN n2).heap.size = w.heap.size := hs
        generalize wr.drewN n2 = wx at *
        have d0 : wx.cell? ⟨b, 0, none⟩ = some (.slice (some ⟨g, 0, none⟩) 1024 1024) := by rw [cell_of_heap hcw.hb]; rfl
        have dk : wx.cell? ⟨g, o + k, none⟩ = some (.int .u8 ((l.getD (o + k) 0).toNat : Int)) := by
          rw [cell_of_heap hcw.hg, hcl.out]; exact bytesV_get l _ (by omega)
        have df : ∀ o, wx.frozen? ⟨g, o, none⟩ = false := fun o => free_of_heap hcw.hg
        clear hc hon hs hlen
        go_region
        all_goals go_wp2
        go_roundw
        case rel =>
          have hx := getD_get l (o + k) (by omega)
          rw [and_or_not, hdn.out, ← hx, ← hdk.out]
          have hset := (hcw.set (o + k) (l.getD (o + k) 0 &&& (d.data.toList.getD k 0 ||| ~~~ (c.begins.1.done k c.begins.2.2)))).drew
          rw [hcl.out, ← HLS.out, HCX.out] at hset
          exact ⟨k + 1, by omega, by go_num, hset, (honw.setCell (Or.inr rfl) _).drew, by simpa using hsw⟩
        case measure => simp [intOf]; omega
      · have hkd : k = d.size := by omega
        subst hkd
        go_wp2
        refine bodyPost_end (results_none rfl _ _ _) rfl ?_
        refine ⟨rfl, ?_, hon, hs⟩
        rw [hP.out, hgo]; exact hc
end Go.Proofs.YtcokahccbjdeaaaDoor

namespace Go.Proofs.YtcokahccbjdeaaaDoor
open Go.RowKit

set_option maxRecDepth 100000 in
set_option maxHeartbeats 2000000 in
theorem program_none (w : World) (b g : Nat) (c : ChipS) (o : Int) (d : ByteArray) (ho1 : o < 9223372036854775808) (ho0 : -9223372036854775808 ≤ o) (hd0 : d.size < 4611686018427387904)
    (hbad : d.size < 1 ∨ 8 < d.size ∨ o < 0 ∨ 1024 ≤ o ∨ 256 < o % 256 + d.size) (h : ChipAt w b g c) :
    Calls Tryd.prog 60 #[.pointer (some ⟨b, 0, none⟩), .int .i64 o, .string d] w fun e w' => e = .returned (.tuple #[]) ∧ w' = w := by
  have c0 : w.cell? ⟨b, 0, none⟩ = some (.slice (some ⟨g, 0, none⟩) 1024 1024) := by rw [cell_of_heap h.hb]; rfl
  clear h
  by_cases h1 : d.size < 1
  · have h1' : (d.size : Int) < 1 := by omega
    clear hbad
    go_enter Tryd.func60, Tryd.ntmps60
    go_wp2
    refine bodyPost_ret (results_none rfl _ _ _) rfl ?_
    exact ⟨rfl, rfl⟩
  by_cases h2 : 8 < d.size
  · have h2' : (8 : Int) < (d.size : Int) := by omega
    clear hbad
    go_enter Tryd.func60, Tryd.ntmps60
    go_wp2
    refine bodyPost_ret (results_none rfl _ _ _) rfl ?_
    exact ⟨rfl, rfl⟩
  by_cases h3 : o < 0
  · clear hbad
    have h1' : ¬ (d.size : Int) < 1 := by omega
    have h2' : ¬ (8 : Int) < (d.size : Int) := by omega
    go_enter Tryd.func60, Tryd.ntmps60
    go_wp2
    refine bodyPost_ret (results_none rfl _ _ _) rfl ?_
    exact ⟨rfl, rfl⟩
  by_cases h4 : 1024 ≤ o
  · clear hbad
    have h1' : ¬ (d.size : Int) < 1 := by omega
    have h2' : ¬ (8 : Int) < (d.size : Int) := by omega
    go_enter Tryd.func60, Tryd.ntmps60
    go_wp2
    refine bodyPost_ret (results_none rfl _ _ _) rfl ?_
    exact ⟨rfl, rfl⟩
  · have h5 : 256 < o % 256 + d.size := by omega
    clear hbad
    have h1' : ¬ (d.size : Int) < 1 := by omega
    have h2' : ¬ (8 : Int) < (d.size : Int) := by omega
    go_enter Tryd.func60, Tryd.ntmps60
    go_wp2
    refine bodyPost_ret (results_none rfl _ _ _) rfl ?_
    exact ⟨rfl, rfl⟩

theorem program_all (w : World) (b g : Nat) (c : ChipS) (o : Int) (d : ByteArray) (ho1 : o < 9223372036854775808) (ho0 : -9223372036854775808 ≤ o) (hd0 : d.size < 4611686018427387904) (h : ChipAt w b g c) (hops : c.ops < 4611686018427387904) :
    Calls Tryd.prog 60 #[.pointer (some ⟨b, 0, none⟩), .int .i64 o, .string d] w fun e w' => e = .returned (.tuple #[]) ∧ ChipAt w' b g (c.program o d) ∧ Only (fun k => k = b ∨ k = g) w w' ∧ w'.heap.size = w.heap.size := by
  by_cases hbad : d.size < 1 ∨ 8 < d.size ∨ o < 0 ∨ 1024 ≤ o ∨ 256 < o % 256 + d.size
  · refine (program_none w b g c o d ho1 ho0 hd0 hbad h).mono ?_
    rintro e w' ⟨rfl, rfl⟩
    exact ⟨rfl, by unfold ChipS.program; rw [if_pos hbad]; exact h, Only.refl _ _, rfl⟩
  · obtain ⟨k, rfl⟩ : ∃ k : Nat, o = k := ⟨o.toNat, by omega⟩
    exact program_any w b g c k d (by omega) (by omega) (by omega) (by omega) h hops

def eraseN (f : Nat → UInt8) (o : Nat) : Nat → List UInt8 → List UInt8
  | 0, l => l
  | k + 1, l => (eraseN f o k l).set (o + k) ((eraseN f o k l).getD (o + k) 0 ||| f k)
theorem eraseN_length (f : Nat → UInt8) (o : Nat) (k : Nat) (l : List UInt8) : (eraseN f o k l).length = l.length := by
  induction k with
  | zero => rfl
  | succ k ih => simp [eraseN, ih]
def ChipS.erase (c : ChipS) (s : Int) : ChipS :=
  if s < 0 ∨ 4 ≤ s then c
  else if c.begins.2.1 then { c.begins.1 with cells := eraseN (fun k => c.begins.1.done k c.begins.2.2) (s.toNat * 256) 256 c.cells }
  else c.begins.1
theorem or_u8 (x m : UInt8) : bits .or .u8 (x.toNat : Int) (m.toNat : Int) = ((x ||| m).toNat : Int) := by
  rw [u8_or_nat _ _ x.toNat_lt m.toNat_lt, UInt8.toNat_or]

set_option maxRecDepth 100000 in
set_option maxHeartbeats 2000000 in
theorem erase_any (w : World) (b g : Nat) (c : ChipS) (s : Nat) (hs4 : s < 4) (h : ChipAt w b g c) (hops : c.ops < 4611686018427387904) :
    Calls Tryd.prog 84 #[.pointer (some ⟨b, 0, none⟩), .int .i64 s] w fun e w' => e = .returned (.tuple #[]) ∧ ChipAt w' b g (c.erase s) ∧ Only (fun k => k = b ∨ k = g) w w' ∧ w'.heap.size = w.heap.size := by
  have hs0 : (s : Int) < 4 := by omega
  have hP : Hid (c.erase s = if c.begins.2.1 then { c.begins.1 with cells := eraseN (fun k => c.begins.1.done k c.begins.2.2) (s * 256) 256 c.cells } else c.begins.1) := by
    unfold ChipS.erase Hid; rw [if_neg (by omega)]; simp
  have HC : Hid (c.begins.1.cells = c.cells) := by unfold ChipS.begins Hid; (repeat' split) <;> rfl
  cases hgo : c.begins.2.1
  · go_enter Tryd.func84, Tryd.ntmps84
    go_wp2_with (go_at_call 85; refine (begins_any w b g c h hops).mono ?_; rintro e w' ⟨rfl, hb', honly, hsz⟩; simp only [hgo])
    have hcb := h.begun hb' honly
    refine bodyPost_ret (results_none rfl _ _ _) rfl ?_
    refine ⟨rfl, ?_, honly.mono (fun k hk => Or.inl hk), hsz⟩
    rw [hP.out, hgo]; exact hcb
  · go_enter Tryd.func84, Tryd.ntmps84
    go_wp2_with (go_at_call 85; refine (begins_any w b g c h hops).mono ?_; rintro e w' ⟨rfl, hb', honly, hsz⟩; simp only [hgo])
    have hcb := h.begun hb' honly
    clear hb'
    go_loopw [6, 7] (fun i m wr => ∃ k : Nat, k ≤ 256 ∧ i = .int .i64 k ∧ ChipAt wr b g { c.begins.1 with cells := eraseN (fun k => c.begins.1.done k c.begins.2.2) (s * 256) k c.cells } ∧ Only (fun k => k = b ∨ k = g) w wr ∧ wr.heap.size = w.heap.size) (fun i m _ => 256 - (intOf i).toNat)
    case atStart =>
      refine ⟨0, by omega, rfl, ?_, honly.mono (fun k hk => Or.inl hk), hsz⟩
      rw [show ({ c.begins.1 with cells := eraseN (fun k => c.begins.1.done k c.begins.2.2) (s * 256) 0 c.cells } : ChipS) = c.begins.1 from by show ({ c.begins.1 with cells := c.cells } : ChipS) = _; rw [← HC.out]]
      exact hcb
    case round =>
      obtain ⟨k, hk, rfl, hc, hon, hs⟩ := hrel
      by_cases hlt : k < 256
      · have hlen := hc.len
        simp only [eraseN_length] at hlen
        obtain ⟨l, hl⟩ : ∃ l, l = eraseN (fun k => c.begins.1.done k c.begins.2.2) (s * 256) k c.cells := ⟨_, rfl⟩
        have HLS : Hid (eraseN (fun k => c.begins.1.done k c.begins.2.2) (s * 256) (k + 1) c.cells = l.set (s * 256 + k) (l.getD (s * 256 + k) 0 ||| (c.begins.1.done k c.begins.2.2))) := by rw [hl]; rfl
        rw [← hl] at hc
        have hll : l.length = 1024 := by rw [hl, eraseN_length]; exact hlen
        clear hl
        have hok : s * 256 + k < 1024 := by omega
        obtain ⟨cx, hcx⟩ : ∃ cx, cx = ({ c.begins.1 with cells := l } : ChipS) := ⟨_, rfl⟩
        have hdn : Hid (cx.done k c.begins.2.2 = c.begins.1.done k c.begins.2.2) := by rw [hcx]; rfl
        have hcl : Hid (cx.cells = l) := by rw [hcx]; rfl
        have HCX : Hid (cx = ({ c.begins.1 with cells := l } : ChipS)) := hcx
        rw [← hcx] at hc
        clear hcx
        go_wp2_with (go_at_call 86; refine (done_any wr b g cx k c.begins.2.2 (by omega) hc).mono ?_; rintro e w2 ⟨rfl, n2, rfl⟩)
        have hcw := hc.drewN n2
        have honw := hon.drewN n2
        have hsw : (wr.drewN n2).heap.size = w.heap.size := hs
        generalize wr.drewN n2 = wx at *
        have d0 : wx.cell? ⟨b, 0, none⟩ = some (.slice (some ⟨g, 0, none⟩) 1024 1024) := by rw [cell_of_heap hcw.hb]; rfl
        have dk : wx.cell? ⟨g, s * 256 + k, none⟩ = some (.int .u8 ((l.getD (s * 256 + k) 0).toNat : Int)) := by
          rw [cell_of_heap hcw.hg, hcl.out]; exact bytesV_get l _ (by omega)
        have df : ∀ o, wx.frozen? ⟨g, o, none⟩ = false := fun o => free_of_heap hcw.hg
        clear hc hon hs hlen
        go_region
        all_goals go_wp2
        go_roundw
        case rel =>
          have hx := getD_get l (s * 256 + k) (by omega)
          rw [or_u8, hdn.out, ← hx]
          have hset := (hcw.set (s * 256 + k) (l.getD (s * 256 + k) 0 ||| (c.begins.1.done k c.begins.2.2))).drew
          rw [hcl.out, ← HLS.out, HCX.out] at hset
          exact ⟨k + 1, by omega, by go_num, hset, (honw.setCell (Or.inr rfl) _).drew, by simpa using hsw⟩
        case measure => simp [intOf]; omega
      · have hkd : k = 256 := by omega
        subst hkd
        go_wp2
        refine bodyPost_end (results_none rfl _ _ _) rfl ?_
        refine ⟨rfl, ?_, hon, hs⟩
        rw [hP.out, hgo]; exact hc

set_option maxRecDepth 100000 in
theorem erase_none (w : World) (b : Nat) (s : Int) (hs : s < 0 ∨ 4 ≤ s) :
    Calls Tryd.prog 84 #[.pointer (some ⟨b, 0, none⟩), .int .i64 s] w fun e w' => e = .returned (.tuple #[]) ∧ w' = w := by
  by_cases h1 : s < 0
  · clear hs
    go_enter Tryd.func84, Tryd.ntmps84
    go_wp2
    refine bodyPost_ret (results_none rfl _ _ _) rfl ?_
    exact ⟨rfl, rfl⟩
  · have h2 : 4 ≤ s := by omega
    clear hs
    go_enter Tryd.func84, Tryd.ntmps84
    go_wp2
    refine bodyPost_ret (results_none rfl _ _ _) rfl ?_
    exact ⟨rfl, rfl⟩
theorem erase_all (w : World) (b g : Nat) (c : ChipS) (s : Int) (h : ChipAt w b g c) (hops : c.ops < 4611686018427387904) :
    Calls Tryd.prog 84 #[.pointer (some ⟨b, 0, none⟩), .int .i64 s] w fun e w' => e = .returned (.tuple #[]) ∧ ChipAt w' b g (c.erase s) ∧ Only (fun k => k = b ∨ k = g) w w' ∧ w'.heap.size = w.heap.size := by
  by_cases hbad : s < 0 ∨ 4 ≤ s
  · refine (erase_none w b s hbad).mono ?_
    rintro e w' ⟨rfl, rfl⟩
    exact ⟨rfl, by unfold ChipS.erase; rw [if_pos hbad]; exact h, Only.refl _ _, rfl⟩
  · obtain ⟨k, rfl⟩ : ∃ k : Nat, s = k := ⟨s.toNat, by omega⟩
    exact erase_any w b g c k (by omega) h hops
end Go.Proofs.YtcokahccbjdeaaaDoor

namespace Go.Proofs.YtcokahccbjdeaaaDoor
open Go.RowKit

theorem conv_row (w : World) (g o n cap : Nat) (l : List UInt8) (fz : Nat × Nat) (hg : w.heap[g]? = some (.cells (bytesV l) 5 fz)) (h : o + n ≤ l.length) :
    (convert 55 9 (.slice (some ⟨g, o, none⟩) n cap)).run Tryd.prog w = .ok (.string ⟨((l.drop o).take n).toArray⟩) w := by
  have hl : ((l.drop o).take n).length = n := by simp; omega
  have := run_convert_bytes_back (P := Tryd.prog) w 55 9 5 ⟨g, o, none⟩ cap ((l.drop o).take n) Tryd.underlying55 Tryd.underlying5 Tryd.underlying9 (by
    intro j hj
    have ha : (⟨g, o, none⟩ : Addr).add j = ⟨g, o + j, none⟩ := by simp [Addr.add]
    rw [ha, cell_of_heap hg, bytesV_get l (o + j) (by omega)]
    rw [getD_get l (o + j) (by omega)]
    simp)
  rw [hl] at this
  exact this

theorem Tryd.info5 : (Tryd.prog.info? 5).map (fun i => (i.zero, i.size, i.bytes)) = some (some (.int .u8 0), 1, 1) := by kernel_rfl

theorem madeCells_bytes (n : Nat) : madeCells (Value.int .u8 0).cells (n * 1) = bytesV (List.replicate n 0) := by
  apply Array.ext'
  rw [show (Value.int .u8 0).cells = #[.int .u8 0] from rfl, toList_madeCells_one]
  simp [bytesV]

theorem make_row (w : World) (kl kc : IntKind) (n : Nat) (h : n ≤ 140737488355328) :
    (Instr.makeSlice 55 (.int kl (n : Int)) (.int kc (n : Int))).run Tryd.prog w = .ok (.slice (some ⟨w.heap.size, 0, none⟩) n n) (w.alloc (.cells (bytesV (List.replicate n 0)) 5)) := by
  obtain ⟨i, hi, h0, h1, h2⟩ := info_parts Tryd.info5
  have := run_make (P := Tryd.prog) w 55 5 i _ Tryd.underlying55 hi h0 kl kc n n (by omega) (by omega) (by rw [h2]; omega) (by omega)
  rw [this, h1, Int.toNat_natCast, madeCells_bytes]

theorem fill_step (n k : Nat) (x : UInt8) (h : k < n) : (List.replicate k x ++ List.replicate (n - k) (0 : UInt8)).set k x = List.replicate (k + 1) x ++ List.replicate (n - (k + 1)) 0 := by
  rw [List.set_append_right _ _ (by simp)]
  obtain ⟨m, hm⟩ : ∃ m, n - k = m + 1 := ⟨n - k - 1, by omega⟩
  rw [hm, show n - (k + 1) = m from by omega]
  rw [List.length_replicate, Nat.sub_self, List.replicate_succ, List.set_cons_zero, List.replicate_succ', List.append_assoc]; rfl
theorem fill_get (n k : Nat) (x : UInt8) (h : k < n) : (List.replicate k x ++ List.replicate (n - k) (0 : UInt8)).getD k 0 = 0 := by
  rw [List.getD_eq_getElem?_getD, List.getElem?_append_right (by simp), List.getElem?_replicate, if_pos (by simp; omega)]; rfl

def newChip : ChipS := ⟨List.replicate 1024 255, false, 0, ByteArray.empty, false, 0⟩

set_option maxRecDepth 100000 in
set_option maxHeartbeats 1000000 in
theorem new_any (w : World) :
    Calls Tryd.prog 32 #[] w fun e w' => e = .returned (.pointer (some ⟨w.heap.size + 1, 0, none⟩)) ∧ ChipAt w' (w.heap.size + 1) w.heap.size newChip ∧ Below w.heap.size w w' ∧ w'.heap.size = w.heap.size + 2 := by
  have hmk : (Instr.makeSlice 55 (.int .i64 1024) (.int .i64 1024)).run Tryd.prog w = .ok (.slice (some ⟨w.heap.size, 0, none⟩) 1024 1024) (w.alloc (.cells (bytesV (List.replicate 1024 0)) 5)) := make_row w .i64 .i64 1024 (by omega)
  obtain ⟨z, hz⟩ : ∃ z, z = bytesV (List.replicate 1024 0) := ⟨_, rfl⟩
  have HZ : Hid (z = bytesV (List.replicate 1024 0)) := hz
  rw [← hz] at hmk
  clear hz
  go_enter Tryd.func32, Tryd.ntmps32
  go_wp2
  go_loopw [2] (fun i wr => ∃ k : Nat, k ≤ 1024 ∧ i = .int .i64 k ∧ ChipAt wr (w.heap.size + 1) w.heap.size ⟨List.replicate k 255 ++ List.replicate (1024 - k) 0, false, 0, ByteArray.empty, false, 0⟩ ∧ Below w.heap.size w wr ∧ wr.heap.size = w.heap.size + 2) (fun i _ => 1024 - (intOf i).toNat)
  case atStart =>
    refine ⟨0, by omega, rfl, ?_, ((Below.refl _ _).alloc (Nat.le_refl _) _).alloc (by simp) _, by simp⟩
    rw [HZ.out]
    refine ⟨?_, ?_, by simp, by simp, by simp, by simp, by simp⟩
    · rw [heap_alloc2_new]; rfl
    · rw [heap_alloc2_old]; simp
  case round =>
    obtain ⟨k, hk, rfl, hc, hbl, hsz⟩ := hrel
    have c0 : wr.cell? ⟨w.heap.size + 1, 0, none⟩ = some (.slice (some ⟨w.heap.size, 0, none⟩) 1024 1024) := by rw [cell_of_heap hc.hb]; rfl
    by_cases hlt : k < 1024
    · have hf : ∀ o, wr.frozen? ⟨w.heap.size, o, none⟩ = false := fun o => free_of_heap hc.hg
      have hcc : wr.cell? ⟨w.heap.size, k, none⟩ = some (.int .u8 ((0 : UInt8).toNat : Int)) := by
        rw [cell_of_heap hc.hg, bytesV_get _ _ (by simp; omega)]
        show some (Value.int IntKind.u8 _) = _
        rw [fill_get 1024 k 255 hlt]
      go_wp2
      go_roundw
      case rel =>
        refine ⟨k + 1, by omega, by go_num, ?_, hbl.setCell (Nat.le_refl _) _, by simpa using hsz⟩
        have := hc.set k 255
        rw [fill_step 1024 k 255 hlt] at this
        exact this
      case measure => simp [intOf]; omega
    · have hkn : k = 1024 := by omega
      subst hkn
      go_wp2
      go_ret
      exact ⟨rfl, by simpa [newChip] using hc, hbl, hsz⟩

def ChipS.read (c : ChipS) (o n : Int) : ByteArray :=
  if o < 0 ∨ n < 0 ∨ 1024 < o ∨ 1024 - o < n then ByteArray.empty else ⟨((c.cells.drop o.toNat).take n.toNat).toArray⟩

end Go.Proofs.YtcokahccbjdeaaaDoor

namespace Go.Proofs.YtcokahccbjdeaaaDoor
open Go.RowKit
set_option maxRecDepth 100000 in
set_option maxHeartbeats 2000000 in
theorem read_ok (w : World) (b g : Nat) (c : ChipS) (o n : Nat) (h1 : (o : Int) ≤ 1024) (h2 : (n : Int) ≤ 1024 - o) (h : ChipAt w b g c) :
    Calls Tryd.prog 58 #[.pointer (some ⟨b, 0, none⟩), .int .i64 o, .int .i64 n] w fun e w' => e = .returned (.string ⟨((c.cells.drop o).take n).toArray⟩) ∧ w' = w := by
  have c0 : w.cell? ⟨b, 0, none⟩ = some (.slice (some ⟨g, 0, none⟩) 1024 1024) := by rw [cell_of_heap h.hb]; rfl
  have hl := h.len
  by_cases ho : (1024 : Nat) = o
  · subst ho
    have hn : n = 0 := by omega
    subst hn
    have hcv := conv_row w g 0 0 0 c.cells _ h.hg (by omega)
    clear h hl
    go_enter Tryd.func58, Tryd.ntmps58
    go_wp2
    go_ret
    exact ⟨ret_str (by simp), rfl⟩
  · have ho' : (o : Int) < 1024 := by omega
    have hcv := conv_row w g o n (1024 - o) c.cells _ h.hg (by omega)
    clear h hl
    go_enter Tryd.func58, Tryd.ntmps58
    go_wp2
    go_ret
    exact ⟨rfl, rfl⟩

set_option maxRecDepth 100000 in
set_option maxHeartbeats 2000000 in
theorem read_none (w : World) (b g : Nat) (c : ChipS) (o n : Int) (ho1 : o < 9223372036854775808) (ho0 : -9223372036854775808 ≤ o) (hn1 : n < 9223372036854775808) (hn0 : -9223372036854775808 ≤ n) (h : ChipAt w b g c) (hbad : o < 0 ∨ n < 0 ∨ 1024 < o ∨ 1024 - o < n) :
    Calls Tryd.prog 58 #[.pointer (some ⟨b, 0, none⟩), .int .i64 o, .int .i64 n] w fun e w' => e = .returned (.string ByteArray.empty) ∧ w' = w := by
  have c0 : w.cell? ⟨b, 0, none⟩ = some (.slice (some ⟨g, 0, none⟩) 1024 1024) := by rw [cell_of_heap h.hb]; rfl
  clear h
  by_cases h1 : o < 0
  · clear hbad
    go_enter Tryd.func58, Tryd.ntmps58
    go_wp2
    go_ret
    exact ⟨rfl, rfl⟩
  by_cases h2 : n < 0
  · clear hbad
    go_enter Tryd.func58, Tryd.ntmps58
    go_wp2
    go_ret
    exact ⟨rfl, rfl⟩
  by_cases h3 : 1024 < o
  · clear hbad
    go_enter Tryd.func58, Tryd.ntmps58
    go_wp2
    go_ret
    exact ⟨rfl, rfl⟩
  · have h4 : 1024 - o < n := by omega
    clear hbad
    go_enter Tryd.func58, Tryd.ntmps58
    go_wp2
    go_ret
    exact ⟨rfl, rfl⟩

theorem read_any (w : World) (b g : Nat) (c : ChipS) (o n : Int) (ho1 : o < 9223372036854775808) (ho0 : -9223372036854775808 ≤ o) (hn1 : n < 9223372036854775808) (hn0 : -9223372036854775808 ≤ n) (h : ChipAt w b g c) :
    Calls Tryd.prog 58 #[.pointer (some ⟨b, 0, none⟩), .int .i64 o, .int .i64 n] w fun e w' => e = .returned (.string (c.read o n)) ∧ w' = w := by
  unfold ChipS.read
  by_cases hbad : o < 0 ∨ n < 0 ∨ 1024 < o ∨ 1024 - o < n
  · rw [if_pos hbad]; exact read_none w b g c o n ho1 ho0 hn1 hn0 h hbad
  · rw [if_neg hbad]
    obtain ⟨o, rfl⟩ : ∃ k : Nat, o = k := ⟨o.toNat, by omega⟩
    obtain ⟨n, rfl⟩ : ∃ k : Nat, n = k := ⟨n.toNat, by omega⟩
    exact read_ok w b g c o n (by omega) (by omega) h

set_option maxRecDepth 100000 in
theorem ops_any (w : World) (b g : Nat) (c : ChipS) (h : ChipAt w b g c) :
    Calls Tryd.prog 38 #[.pointer (some ⟨b, 0, none⟩)] w fun e w' => e = .returned (.int .i64 c.ops) ∧ w' = w := by
  have c5 : w.cell? ⟨b, 5, none⟩ = some (.int .i64 c.ops) := by rw [cell_of_heap h.hb]; rfl
  clear h
  go_enter Tryd.func38, Tryd.ntmps38
  go_wp2
  go_ret
  exact ⟨rfl, rfl⟩
set_option maxRecDepth 100000 in
theorem dead_any (w : World) (b g : Nat) (c : ChipS) (h : ChipAt w b g c) :
    Calls Tryd.prog 42 #[.pointer (some ⟨b, 0, none⟩)] w fun e w' => e = .returned (.bool c.dead) ∧ w' = w := by
  have c4 : w.cell? ⟨b, 4, none⟩ = some (.bool c.dead) := by rw [cell_of_heap h.hb]; rfl
  clear h
  go_enter Tryd.func42, Tryd.ntmps42
  go_wp2
  go_ret
  exact ⟨rfl, rfl⟩

theorem ChipAt.setB {w w' : World} {b g : Nat} {c c' : ChipS} (h : ChipAt w b g c) (hb' : w'.heap[b]? = some (.cells (chipV g c') 118 (0, 0))) (ho : Only (· = b) w w') (e1 : c'.cells = c.cells) (e2 : 0 ≤ c'.ops) (e3 : c'.left < 9223372036854775808) (e4 : -9223372036854775808 ≤ c'.left) (e5 : c'.torn.size < 4611686018427387904) : ChipAt w' b g c' := by
  have hlt : g < w.heap.size := (Array.getElem?_eq_some_iff.1 h.hg).1
  have hne := h.ne
  exact ⟨hb', by rw [e1, ho.block g hlt (fun e => hne e.symm)]; exact h.hg, by rw [e1]; exact h.len, e2, e3, e4, e5⟩

def ChipS.cut (c : ChipS) (n : Int) (t : ByteArray) : ChipS := { c with armed := true, left := n, torn := t }
def ChipS.restore (c : ChipS) : ChipS := { c with armed := false, dead := false }

set_option maxRecDepth 100000 in
theorem cut_any (w : World) (b g : Nat) (c : ChipS) (n : Int) (t : ByteArray) (hn1 : n < 9223372036854775808) (hn0 : -9223372036854775808 ≤ n) (ht : t.size < 4611686018427387904) (h : ChipAt w b g c) :
    Calls Tryd.prog 71 #[.pointer (some ⟨b, 0, none⟩), .int .i64 n, .string t] w fun e w' => e = .returned (.tuple #[]) ∧ ChipAt w' b g (c.cut n t) ∧ Only (fun k => k = b ∨ k = g) w w' ∧ w'.heap.size = w.heap.size := by
  obtain ⟨l, ar, lf, tn, dd, op⟩ := c
  have hb := h.hb
  simp only [chipV] at hb
  have c1 : w.cell? ⟨b, 1, none⟩ = some (.bool ar) := by rw [cell_of_heap hb]; rfl
  have c2 : w.cell? ⟨b, 2, none⟩ = some (.int .i64 lf) := by rw [cell_of_heap hb]; rfl
  have c3 : w.cell? ⟨b, 3, none⟩ = some (.string tn) := by rw [cell_of_heap hb]; rfl
  have f : ∀ o, w.frozen? ⟨b, o, none⟩ = false := fun o => free_of_heap hb
  have HB : Hid (w.heap[b]? = some (.cells #[.slice (some ⟨g, 0, none⟩) 1024 1024, .bool ar, .int .i64 lf, .string tn, .bool dd, .int .i64 op] 118 (0, 0))) := hb
  clear hb
  go_enter Tryd.func71, Tryd.ntmps71
  go_wp2
  refine bodyPost_end (results_none rfl _ _ _) rfl ?_
  have hon : Only (· = b) w (((w.setCell ⟨b, 1, none⟩ (.bool true)).setCell ⟨b, 2, none⟩ (.int .i64 n)).setCell ⟨b, 3, none⟩ (.string t)) := by
    repeat (first | exact Only.refl _ _ | refine Only.setCell ?_ (by exact rfl) _)
  refine ⟨rfl, h.setB ?_ hon rfl h.ops0 hn1 hn0 ht, hon.mono (fun k hk => Or.inl hk), by simp⟩
  rw [heap_setCell_at _ _ _ _ _ _ _ (heap_setCell_at _ _ _ _ _ _ _ (heap_setCell_at _ _ _ _ _ _ _ HB.out))]; rfl

set_option maxRecDepth 100000 in
theorem restore_any (w : World) (b g : Nat) (c : ChipS) (h : ChipAt w b g c) :
    Calls Tryd.prog 43 #[.pointer (some ⟨b, 0, none⟩)] w fun e w' => e = .returned (.tuple #[]) ∧ ChipAt w' b g c.restore ∧ Only (fun k => k = b ∨ k = g) w w' ∧ w'.heap.size = w.heap.size := by
  obtain ⟨l, ar, lf, tn, dd, op⟩ := c
  have hb := h.hb
  simp only [chipV] at hb
  have c1 : w.cell? ⟨b, 1, none⟩ = some (.bool ar) := by rw [cell_of_heap hb]; rfl
  have c4 : w.cell? ⟨b, 4, none⟩ = some (.bool dd) := by rw [cell_of_heap hb]; rfl
  have f : ∀ o, w.frozen? ⟨b, o, none⟩ = false := fun o => free_of_heap hb
  have HB : Hid (w.heap[b]? = some (.cells #[.slice (some ⟨g, 0, none⟩) 1024 1024, .bool ar, .int .i64 lf, .string tn, .bool dd, .int .i64 op] 118 (0, 0))) := hb
  clear hb
  go_enter Tryd.func43, Tryd.ntmps43
  go_wp2
  refine bodyPost_end (results_none rfl _ _ _) rfl ?_
  have hon : Only (· = b) w ((w.setCell ⟨b, 1, none⟩ (.bool false)).setCell ⟨b, 4, none⟩ (.bool false)) := by
    repeat (first | exact Only.refl _ _ | refine Only.setCell ?_ (by exact rfl) _)
  refine ⟨rfl, h.setB ?_ hon rfl h.ops0 h.left1 h.left0 h.tn, hon.mono (fun k hk => Or.inl hk), by simp⟩
  rw [heap_setCell_at _ _ _ _ _ _ _ (heap_setCell_at _ _ _ _ _ _ _ HB.out)]; rfl
end Go.Proofs.YtcokahccbjdeaaaDoor
