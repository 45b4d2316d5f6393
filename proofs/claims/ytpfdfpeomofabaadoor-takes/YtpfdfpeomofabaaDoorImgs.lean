import Derived.Test.YtpfdfpeomofabaaDoorChips
namespace Go.Proofs.YtpfdfpeomofabaaDoor

/-! The plain model of images: no Go in sight. -/
structure Seg where
  addr : Int
  size : Int
  data : ByteArray

def Seg.fits (s : Seg) : Bool := decide (0 ≤ s.addr) && decide (1 ≤ s.size) && decide (s.addr ≤ 128 - s.size) && decide ((s.data.size : Int) ≤ s.size)
theorem Seg.fits_iff (s : Seg) : s.fits = true ↔ 0 ≤ s.addr ∧ 1 ≤ s.size ∧ s.addr ≤ 128 - s.size ∧ (s.data.size : Int) ≤ s.size := by
  simp [Seg.fits, and_assoc]

/-- A picture of the memory: 128 addresses. -/
structure Mem where
  cov : List Bool
  byt : List UInt8

def Mem.c (m : Mem) (a : Nat) : Bool := m.cov.getD a false
def Mem.b (m : Mem) (a : Nat) : UInt8 := m.byt.getD a 0
def Mem.wf (m : Mem) : Prop := m.cov.length = 128 ∧ m.byt.length = 128
def mem0 : Mem := ⟨List.replicate 128 false, List.replicate 128 0⟩

/-- byte i of a segment is laid -/
def Mem.put (m : Mem) (a : Nat) (d : ByteArray) (i : Nat) : Mem :=
  ⟨m.cov.set (a + i) true, if i < d.size then m.byt.set (a + i) (d.data.toList.getD i 0) else m.byt⟩
def Mem.putN (m : Mem) (a : Nat) (d : ByteArray) : Nat → Mem
  | 0 => m
  | k + 1 => (m.putN a d k).put a d k
def Mem.freeN (m : Mem) (a : Nat) (d : ByteArray) : Nat → Bool
  | 0 => true
  | k + 1 => m.freeN a d k && !(m.putN a d k).c (a + k)

def Mem.freeS (m : Mem) (s : Seg) : Bool := m.freeN s.addr.toNat s.data s.size.toNat
def Mem.putS (m : Mem) (s : Seg) : Mem := m.putN s.addr.toNat s.data s.size.toNat
def Mem.step (m : Mem) (s : Seg) : Option Mem := if s.fits && m.freeS s then some (m.putS s) else none
def layAll (l : List Seg) : Option Mem := l.foldlM Mem.step mem0
def allFit (l : List Seg) : Bool := decide (1 ≤ l.length) && decide (l.length ≤ 8) && l.all Seg.fits

theorem Mem.putN_wf {m : Mem} (h : m.wf) (a : Nat) (d : ByteArray) (k : Nat) : (m.putN a d k).wf := by
  induction k with
  | zero => exact h
  | succ k ih =>
    obtain ⟨h1, h2⟩ := ih
    refine ⟨by simp [Mem.putN, Mem.put, h1], ?_⟩
    simp only [Mem.putN, Mem.put]
    split <;> simp [h2]
theorem mem0_wf : mem0.wf := ⟨by simp [mem0], by simp [mem0]⟩

/-- where the stretch that is covered ends, and behind which byte nothing but noughts comes -/
def endUp (m : Mem) : Nat → Nat → Nat
  | 0, e => e
  | k + 1, e => if m.c e = true then endUp m k (e + 1) else e
def endFrom (m : Mem) (e : Nat) : Nat := endUp m (128 - e) e
def dataUp (m : Mem) : Nat → Nat → Nat → Nat
  | 0, _, d => d
  | k + 1, e, d => if m.c e = true then dataUp m k (e + 1) (if m.b e = 0 then d else e + 1) else d
def dataFrom (m : Mem) (e d : Nat) : Nat := dataUp m (128 - e) e d
theorem endFrom_eq (m : Mem) (e : Nat) : endFrom m e = if e < 128 ∧ m.c e = true then endFrom m (e + 1) else e := by
  unfold endFrom
  by_cases h : e < 128
  · rw [show 128 - e = (128 - (e + 1)) + 1 by omega]
    simp only [endUp, h, true_and]
  · rw [show 128 - e = 0 by omega, if_neg (fun x => h x.1)]
    rfl
theorem dataFrom_eq (m : Mem) (e d : Nat) : dataFrom m e d = if e < 128 ∧ m.c e = true then dataFrom m (e + 1) (if m.b e = 0 then d else e + 1) else d := by
  unfold dataFrom
  by_cases h : e < 128
  · rw [show 128 - e = (128 - (e + 1)) + 1 by omega]
    simp only [dataUp, h, true_and]
  · rw [show 128 - e = 0 by omega, if_neg (fun x => h x.1)]
    rfl
/-- From the memory's end on downward. -/
theorem up_ind {p : Nat → Prop} (h : ∀ e, (e < 128 → p (e + 1)) → p e) (e : Nat) : p e := by
  have : ∀ k e, 128 ≤ e + k → p e := by
    intro k
    induction k with
    | zero => intro e he; exact h e (fun hl => absurd hl (by omega))
    | succ k ih => intro e he; exact h e (fun _ => ih (e + 1) (by omega))
  exact this 128 e (by omega)

def runOf (m : Mem) (a : Nat) : Seg := ⟨a, (endFrom m a : Int) - a, ⟨((m.byt.drop a).take (dataFrom m a a - a)).toArray⟩⟩
def isStart (m : Mem) (a : Nat) : Bool := m.c a && !(decide (0 < a) && m.c (a - 1))
def runsTo (m : Mem) (n : Nat) : List Seg := ((List.range n).filter (isStart m)).map (runOf m)
def runsOf (m : Mem) : List Seg := runsTo m 128

theorem endFrom_ge (m : Mem) (e : Nat) : e ≤ endFrom m e := by
  refine up_ind (p := fun e => e ≤ endFrom m e) (fun e ih => ?_) e
  show e ≤ endFrom m e
  rw [endFrom_eq]
  by_cases g : e < 128 ∧ m.c e = true
  · rw [if_pos g]
    have : e + 1 ≤ endFrom m (e + 1) := ih g.1
    omega
  · rw [if_neg g]
    omega
theorem endFrom_le (m : Mem) (e : Nat) (h : e ≤ 128) : endFrom m e ≤ 128 := by
  refine up_ind (p := fun e => e ≤ 128 → endFrom m e ≤ 128) (fun e ih h => ?_) e h
  show endFrom m e ≤ 128
  rw [endFrom_eq]
  by_cases g : e < 128 ∧ m.c e = true
  · rw [if_pos g]
    exact ih g.1 (by omega)
  · rw [if_neg g]
    exact h
theorem dataFrom_bd (m : Mem) (e d : Nat) (h : d ≤ e) (he : e ≤ 128) : d ≤ dataFrom m e d ∧ dataFrom m e d ≤ endFrom m e := by
  refine up_ind (p := fun e => ∀ d, d ≤ e → e ≤ 128 → d ≤ dataFrom m e d ∧ dataFrom m e d ≤ endFrom m e) (fun e ih d h he => ?_) e d h he
  show d ≤ dataFrom m e d ∧ dataFrom m e d ≤ endFrom m e
  rw [dataFrom_eq, endFrom_eq]
  by_cases g : e < 128 ∧ m.c e = true
  · rw [if_pos g, if_pos g]
    obtain ⟨h1, h2⟩ := ih g.1 (if m.b e = 0 then d else e + 1) (by split <;> omega) (by omega)
    have h3 : d ≤ (if m.b e = 0 then d else e + 1) := by split <;> omega
    exact ⟨Nat.le_trans h3 h1, h2⟩
  · rw [if_neg g, if_neg g]
    omega

def byteOf (n : Int) : UInt8 := UInt8.ofNat (n % 256).toNat
def runBytes (s : Seg) : List UInt8 := [byteOf s.addr, byteOf s.size, byteOf s.data.size] ++ s.data.data.toList
def checkOf (l : List UInt8) : Nat := l.foldl (fun h b => (31 * h + b.toNat) % 65521) 1
def bodyOf (v e : Int) (l : List Seg) : List UInt8 := [84, 66, byteOf (v / 256), byteOf (v % 256), byteOf e, byteOf l.length] ++ l.flatMap runBytes
def textOf (v e : Int) (l : List Seg) : List UInt8 := bodyOf v e l ++ [byteOf (checkOf (bodyOf v e l) / 256 : Nat), byteOf (checkOf (bodyOf v e l) % 256 : Nat)]

theorem checkOf_lt (l : List UInt8) : checkOf l < 65521 := by
  unfold checkOf
  suffices ∀ h, h < 65521 → l.foldl (fun h b => (31 * h + b.toNat) % 65521) h < 65521 from this 1 (by decide)
  induction l with
  | nil => intro h hh; simpa using hh
  | cons b r ih => intro h _; exact ih _ (Nat.mod_lt _ (by decide))

/-- What Pack answers: the image, and the error's number. -/
def packM (v e : Int) (l : List Seg) : List UInt8 × Int :=
  if v < 0 ∨ 65535 < v then ([], 1)
  else if allFit l = false then ([], 2)
  else match layAll l with
    | none => ([], 3)
    | some m => if ¬ (0 ≤ e ∧ e < 128 ∧ m.c e.toNat = true) then ([], 4)
      else if 120 < (textOf v e (runsOf m)).length then ([], 5)
      else (textOf v e (runsOf m), 0)
end Go.Proofs.YtpfdfpeomofabaaDoor

namespace Go.Proofs.YtpfdfpeomofabaaDoor
open Go.RowKit

def Seg.v (s : Seg) : Value := .agg #[.int .i64 s.addr, .int .i64 s.size, .string s.data]
/-- a segment's numbers fit their kinds, its text is no longer than any can be -/
structure Seg.ok (s : Seg) : Prop where
  a0 : -9223372036854775808 ≤ s.addr
  a1 : s.addr < 9223372036854775808
  s0 : -9223372036854775808 ≤ s.size
  s1 : s.size < 9223372036854775808
  d1 : s.data.size < 4611686018427387904

/-- segments lie in memory, three cells each -/
def SegsAt (w : World) (b o : Nat) (l : List Seg) : Prop :=
  ∀ i (h : i < l.length), w.cell? ⟨b, o + i * 3, none⟩ = some (.int .i64 l[i].addr) ∧ w.cell? ⟨b, o + i * 3 + 1, none⟩ = some (.int .i64 l[i].size) ∧ w.cell? ⟨b, o + i * 3 + 2, none⟩ = some (.string l[i].data)

set_option maxRecDepth 100000 in
set_option maxHeartbeats 1000000 in
theorem fits_any (w : World) (s : Seg) (h : s.ok) :
    Calls Tryd.prog 82 #[s.v] w fun e w' => e = .returned (.bool s.fits) ∧ w' = w.alloc (.cells #[.int .i64 s.addr, .int .i64 s.size, .string s.data] 109) := by
  obtain ⟨a, z, d⟩ := s
  obtain ⟨a0, a1, s0, s1, d1⟩ := h
  simp only [Seg.v] at *
  by_cases h1 : a < 0
  · have hf : Seg.fits ⟨a, z, d⟩ = false := by simp [Seg.fits]; omega
    rw [hf]; clear hf
    go_enter Tryd.func82, Tryd.ntmps82
    go_wp2
    go_ret
    exact ⟨rfl, rfl⟩
  by_cases h2 : z < 1
  · have hf : Seg.fits ⟨a, z, d⟩ = false := by simp [Seg.fits]; omega
    rw [hf]; clear hf
    go_enter Tryd.func82, Tryd.ntmps82
    go_wp2
    go_ret
    exact ⟨rfl, rfl⟩
  by_cases h3 : a ≤ 128 - z
  · have hf : Seg.fits ⟨a, z, d⟩ = decide ((d.size : Int) ≤ z) := by simp only [Seg.fits]; simp [show 0 ≤ a by omega, show 1 ≤ z by omega, h3]
    rw [hf]; clear hf
    go_enter Tryd.func82, Tryd.ntmps82
    go_wp2
    go_ret
    exact ⟨rfl, rfl⟩
  · have hf : Seg.fits ⟨a, z, d⟩ = false := by simp [Seg.fits, h3]
    rw [hf]; clear hf
    go_enter Tryd.func82, Tryd.ntmps82
    go_wp2
    go_ret
    exact ⟨rfl, rfl⟩

set_option maxRecDepth 100000 in
set_option maxHeartbeats 1000000 in
theorem allFit_any (w : World) (a : Option Addr) (b o cap : Nat) (l : List Seg) (ha : l ≠ [] → a = some ⟨b, o, none⟩) (hl : SegsAt w b o l) (hok : ∀ s ∈ l, s.ok) (hb : l ≠ [] → b < w.heap.size) (hlen : l.length < 4611686018427387904) :
    Calls Tryd.prog 76 #[.slice a l.length cap] w fun e w' => e = .returned (.bool (allFit l)) ∧ Below w.heap.size w w' := by
  by_cases h1 : l.length < 1
  · have hf : allFit l = false := by simp only [allFit]; rw [decide_eq_false (by omega)]; rfl
    rw [hf]; clear hf
    have h1' : (l.length : Int) < 1 := by omega
    clear hl hok
    go_enter Tryd.func76, Tryd.ntmps76
    go_wp2
    go_ret
    exact ⟨rfl, Below.refl _ _⟩
  by_cases h2 : 8 < l.length
  · have hf : allFit l = false := by simp only [allFit]; rw [decide_eq_false (show ¬ l.length ≤ 8 by omega)]; simp
    rw [hf]; clear hf
    have h1' : ¬ (l.length : Int) < 1 := by omega
    have h2' : 8 < (l.length : Int) := by omega
    clear hl hok
    go_enter Tryd.func76, Tryd.ntmps76
    go_wp2
    go_ret
    exact ⟨rfl, Below.refl _ _⟩
  · have hf : allFit l = l.all Seg.fits := by simp only [allFit]; rw [decide_eq_true (show 1 ≤ l.length by omega), decide_eq_true (show l.length ≤ 8 by omega)]; simp
    rw [hf]; clear hf
    have hne : l ≠ [] := by intro e; simp [e] at h1
    obtain rfl := ha hne
    have hb' := hb hne
    clear ha hb
    have h1' : ¬ (l.length : Int) < 1 := by omega
    have h2' : ¬ 8 < (l.length : Int) := by omega
    go_enter Tryd.func76, Tryd.ntmps76
    go_wp2
    go_loopw [3] (fun i wr => ∃ k : Nat, k ≤ l.length ∧ i = .int .i64 k ∧ Hid ((l.take k).all Seg.fits = true) ∧ Below w.heap.size w wr) (fun i _ => l.length - (intOf i).toNat)
    case atStart => exact ⟨0, by omega, rfl, rfl, Below.refl _ _⟩
    case round =>
      obtain ⟨k, hk, rfl, hfit, hbel⟩ := hrel
      by_cases hlt : k < l.length
      · obtain ⟨c1, c2, c3⟩ := hl k hlt
        have d1 : wr.cell? ⟨b, o + k * 3, none⟩ = some (.int .i64 l[k].addr) := (hbel.cell (p := ⟨b, o + k * 3, none⟩) hb').trans c1
        have d2 : wr.cell? ⟨b, o + k * 3 + 1, none⟩ = some (.int .i64 l[k].size) := (hbel.cell (p := ⟨b, o + k * 3 + 1, none⟩) hb').trans c2
        have d3 : wr.cell? ⟨b, o + k * 3 + 2, none⟩ = some (.string l[k].data) := (hbel.cell (p := ⟨b, o + k * 3 + 2, none⟩) hb').trans c3
        clear c1 c2 c3
        have hsok := hok l[k] (List.getElem_mem hlt)
        cases hfk : l[k].fits
        · have hall : Hid (l.all Seg.fits = false) := by
            unfold Hid
            rw [Bool.eq_false_iff, ne_eq, List.all_eq_true]
            intro h
            have := h l[k] (List.getElem_mem hlt)
            rw [hfk] at this; cases this
          go_wp2_with (go_at_call 82; refine (fits_any wr l[k] hsok).mono ?_; rintro e w2 ⟨rfl, rfl⟩; rw [hfk])
          go_ret
          exact ⟨by rw [hall.out]; rfl, hbel.alloc hbel.size _⟩
        · have hall : Hid ((l.take (k + 1)).all Seg.fits = true) := by
            unfold Hid
            rw [List.take_succ_eq_append_getElem hlt, List.all_append, hfit.out]; simp [hfk]
          go_wp2_with (go_at_call 82; refine (fits_any wr l[k] hsok).mono ?_; rintro e w2 ⟨rfl, rfl⟩; rw [hfk])
          go_roundw
          case rel => exact ⟨k + 1, by omega, by go_num, hall, hbel.alloc hbel.size _⟩
          case measure => simp [intOf]; omega
      · have hall : Hid (l.all Seg.fits = true) := by
          have := hfit.out
          rwa [List.take_of_length_le (by omega)] at this
        go_wp2
        go_ret
        exact ⟨by rw [hall.out]; rfl, hbel⟩

/-! the memory's picture, in a block of the call's own -/
def memV (m : Mem) : Array Value := (m.cov.map Value.bool ++ m.byt.map (fun x => Value.int .u8 (x.toNat : Int))).toArray

theorem memV_cov {m : Mem} (h : m.wf) (a : Nat) (ha : a < 128) : (memV m)[a]? = some (.bool (m.c a)) := by
  obtain ⟨h1, h2⟩ := h
  simp only [memV, Mem.c, List.getElem?_toArray]
  rw [List.getElem?_append_left (by simp; omega), List.getElem?_map, List.getD_eq_getElem?_getD, List.getElem?_eq_getElem (by omega)]; rfl
theorem memV_byt {m : Mem} (h : m.wf) (a : Nat) (ha : a < 128) : (memV m)[128 + a]? = some (.int .u8 ((m.b a).toNat : Int)) := by
  obtain ⟨h1, h2⟩ := h
  simp only [memV, Mem.b, List.getElem?_toArray]
  rw [List.getElem?_append_right (by simp; omega), List.getElem?_map, List.getD_eq_getElem?_getD, List.length_map, h1, show 128 + a - 128 = a by omega, List.getElem?_eq_getElem (by omega)]; rfl
theorem memV_setCov {m : Mem} (h : m.wf) (a : Nat) (ha : a < 128) (x : Bool) : (memV m).setIfInBounds a (.bool x) = memV ⟨m.cov.set a x, m.byt⟩ := by
  obtain ⟨h1, h2⟩ := h
  simp only [memV, List.setIfInBounds_toArray]
  rw [List.set_append_left _ _ (by simp; omega), List.map_set]
theorem memV_setByt {m : Mem} (h : m.wf) (a : Nat) (x : UInt8) : (memV m).setIfInBounds (128 + a) (.int .u8 (x.toNat : Int)) = memV ⟨m.cov, m.byt.set a x⟩ := by
  obtain ⟨h1, h2⟩ := h
  simp only [memV, List.setIfInBounds_toArray]
  rw [List.set_append_right _ _ (by simp; omega), List.map_set, List.length_map, h1, show 128 + a - 128 = a by omega]

structure MemAt (w : World) (b : Nat) (m : Mem) : Prop where
  hb : w.heap[b]? = some (.cells (memV m) 139 (0, 0))
  wf : m.wf

theorem MemAt.cov {w : World} {b : Nat} {m : Mem} (h : MemAt w b m) (a : Nat) (ha : a < 128) : w.cell? ⟨b, a, none⟩ = some (.bool (m.c a)) := by
  rw [cell_of_heap h.hb]; exact memV_cov h.wf a ha
theorem MemAt.byt {w : World} {b : Nat} {m : Mem} (h : MemAt w b m) (a : Nat) (ha : a < 128) : w.cell? ⟨b, 128 + a, none⟩ = some (.int .u8 ((m.b a).toNat : Int)) := by
  rw [cell_of_heap h.hb]; exact memV_byt h.wf a ha
theorem MemAt.free {w : World} {b : Nat} {m : Mem} (h : MemAt w b m) (o : Nat) : w.frozen? ⟨b, o, none⟩ = false := free_of_heap h.hb
theorem MemAt.setCov {w : World} {b : Nat} {m : Mem} (h : MemAt w b m) (a : Nat) (ha : a < 128) (x : Bool) : MemAt (w.setCell ⟨b, a, none⟩ (.bool x)) b ⟨m.cov.set a x, m.byt⟩ :=
  ⟨by rw [heap_setCell_at _ _ _ _ _ _ _ h.hb, memV_setCov h.wf a ha], by obtain ⟨h1, h2⟩ := h.wf; exact ⟨by simp [h1], h2⟩⟩
theorem MemAt.setByt {w : World} {b : Nat} {m : Mem} (h : MemAt w b m) (a : Nat) (x : UInt8) : MemAt (w.setCell ⟨b, 128 + a, none⟩ (.int .u8 (x.toNat : Int))) b ⟨m.cov, m.byt.set a x⟩ :=
  ⟨by rw [heap_setCell_at _ _ _ _ _ _ _ h.hb, memV_setByt h.wf a], by obtain ⟨h1, h2⟩ := h.wf; exact ⟨h1, by simp [h2]⟩⟩
theorem MemAt.lt {w : World} {b : Nat} {m : Mem} (h : MemAt w b m) : b < w.heap.size := (Array.getElem?_eq_some_iff.1 h.hb).1
theorem MemAt.kept {w w' : World} {b : Nat} {m : Mem} (h : MemAt w b m) (hb : Below w.heap.size w w') : MemAt w' b m := ⟨by rw [hb.block b h.lt]; exact h.hb, h.wf⟩

set_option maxRecDepth 100000 in
set_option maxHeartbeats 1000000 in
theorem covers_any (w : World) (b : Nat) (m : Mem) (a : Int) (h : MemAt w b m) :
    Calls Tryd.prog 78 #[.pointer (some ⟨b, 0, none⟩), .int .i64 a] w fun e w' => e = .returned (.bool (decide (0 ≤ a) && decide (a < 128) && m.c a.toNat)) ∧ w' = w := by
  by_cases h1 : a < 0
  · rw [decide_eq_false (show ¬ 0 ≤ a by omega)]
    go_enter Tryd.func78, Tryd.ntmps78
    go_wp2
    go_ret
    exact ⟨rfl, rfl⟩
  by_cases h2 : 128 ≤ a
  · rw [decide_eq_false (show ¬ a < 128 by omega)]
    go_enter Tryd.func78, Tryd.ntmps78
    go_wp2
    go_ret
    exact ⟨by simp, rfl⟩
  · obtain ⟨k, rfl⟩ : ∃ k : Nat, a = k := ⟨a.toNat, by omega⟩
    rw [decide_eq_true (show (0 : Int) ≤ k by omega), decide_eq_true (show (k : Int) < 128 by omega)]
    have c1 := h.cov k (by omega)
    have h3 : (k : Int) < 128 := by omega
    go_enter Tryd.func78, Tryd.ntmps78
    go_wp2
    go_ret
    exact ⟨by simp, rfl⟩
end Go.Proofs.YtpfdfpeomofabaaDoor

namespace Go.Proofs.YtpfdfpeomofabaaDoor
open Go.RowKit

theorem Only.cell {S : Nat → Prop} {w w' : World} (h : Only S w w') {p : Addr} (hp : p.block < w.heap.size) (hs : ¬ S p.block) : w'.cell? p = w.cell? p := World.cell?_of_block (w := w) (h.block p.block hp hs)
theorem Only.trans_below {S : Nat → Prop} {a b c : World} (h : Only S a b) (k : Below b.heap.size b c) : Only S a c := h.trans (Only.of_below S k)
theorem MemAt.keptO {w w' : World} {b : Nat} {m : Mem} {S : Nat → Prop} (h : MemAt w b m) (ho : Only S w w') (hs : ¬ S b) : MemAt w' b m := ⟨by rw [ho.block b h.lt hs]; exact h.hb, h.wf⟩
theorem MemAt.drew {w : World} {b : Nat} {m : Mem} (h : MemAt w b m) : MemAt w.drew b m := ⟨h.hb, h.wf⟩

theorem freeN_false {m : Mem} {a : Nat} {d : ByteArray} {k n : Nat} (h : (m.putN a d k).c (a + k) = true) (hk : k < n) : m.freeN a d n = false := by
  induction n with
  | zero => omega
  | succ n ih =>
    by_cases hn : k = n
    · subst hn; simp [Mem.freeN, h]
    · simp [Mem.freeN, ih (by omega)]

theorem fits_bel (w : World) (s : Seg) (h : s.ok) : Calls Tryd.prog 82 #[s.v] w fun e w' => e = .returned (.bool s.fits) ∧ Below w.heap.size w w' := by
  refine (fits_any w s h).mono ?_
  rintro e w' ⟨rfl, rfl⟩
  exact ⟨rfl, (Below.refl _ _).alloc (Nat.le_refl _) _⟩

set_option maxRecDepth 100000 in
set_option maxHeartbeats 4000000 in
theorem add_fit (w : World) (b : Nat) (m : Mem) (a z : Nat) (d : ByteArray) (h : MemAt w b m) (hz : 1 ≤ z) (hza : a + z ≤ 128) (hdz : d.size ≤ z) :
    Calls Tryd.prog 83 #[.pointer (some ⟨b, 0, none⟩), .agg #[.int .i64 a, .int .i64 z, .string d]] w fun e w' => e = .returned (.bool (m.freeN a d z)) ∧
      (m.freeN a d z = true → MemAt w' b (m.putN a d z)) ∧ Only (· = b) w w' := by
  have hf : Seg.fits ⟨a, z, d⟩ = true := by rw [Seg.fits_iff]; dsimp only; omega
  have hsok : Seg.ok ⟨a, z, d⟩ := ⟨by dsimp only; omega, by dsimp only; omega, by dsimp only; omega, by dsimp only; omega, by dsimp only; omega⟩
  have HF : Hid (Seg.fits ⟨a, z, d⟩ = true) := hf
  clear hf
  have hb := h.lt
  go_enter Tryd.func83, Tryd.ntmps83
  go_wp2_with (go_at_call 82; refine (fits_bel _ ⟨a, z, d⟩ hsok).mono ?_; rintro e w2 ⟨rfl, hw2⟩; rw [HF.out])
  have ho : Only (· = b) w w2 := ((Only.refl _ _).alloc _).trans_below hw2
  have hB : Hid (w2.heap[w.heap.size]? = some (.cells #[.int .i64 a, .int .i64 z, .string d] 109 (0, 0))) := by unfold Hid; rw [hw2.block _ (by simp), heap_alloc_new]
  have hm2 : MemAt w2 b (m.putN a d 0) := h.kept (((Below.refl _ _).alloc (Nat.le_refl _) _).trans (hw2.mono (by simp)))
  have hsz2 : w.heap.size < w2.heap.size := by have := hw2.size; simp at this; omega
  clear hw2
  go_loopw [4, 5] (fun r i wr => ∃ k : Nat, k ≤ z ∧ i = .int .i64 k ∧ MemAt wr b (m.putN a d k) ∧ Hid (m.freeN a d k = true) ∧ Only (· = b) w2 wr) (fun _ i _ => z - (intOf i).toNat)
  case atStart => exact ⟨0, by omega, rfl, hm2, rfl, Only.refl _ _⟩
  case round =>
    obtain ⟨k, hk, rfl, hm, hfr, hon⟩ := hrel
    obtain ⟨wo, hwo⟩ : ∃ wo : World, wo = wr := ⟨_, rfl⟩
    have hBr : wr.heap[w.heap.size]? = some (.cells #[.int .i64 a, .int .i64 z, .string d] 109 (0, 0)) := by rw [hon.block _ hsz2 (by omega)]; exact hB.out
    have q0 : wr.cell? ⟨w.heap.size, 0, none⟩ = some (.int .i64 a) := by rw [cell_of_heap hBr]; rfl
    have q1 : wr.cell? ⟨w.heap.size, 1, none⟩ = some (.int .i64 z) := by rw [cell_of_heap hBr]; rfl
    have q2 : wr.cell? ⟨w.heap.size, 2, none⟩ = some (.string d) := by rw [cell_of_heap hBr]; rfl
    clear hBr hwo
    have hne : ¬ w.heap.size = b := by omega
    by_cases hlt : k < z
    · have hcv := hm.cov (a + k) (by omega)
      have hfz := hm.free
      cases hck : (m.putN a d k).c (a + k)
      · rw [hck] at hcv
        have hm1 := hm.setCov (a + k) (by omega) true
        have hfr1 : Hid (m.freeN a d (k + 1) = true) := by unfold Hid; simp [Mem.freeN, hfr.out, hck]
        by_cases hkd : k < d.size
        · have hby : wr.cell? ⟨b, 128 + (a + k), none⟩ = some (.int .u8 (((m.putN a d k).b (a + k)).toNat : Int)) := hm.byt (a + k) (by omega)
          go_wp2
          have hm2' : MemAt (wr.setCell ⟨b, a + k, none⟩ (.bool true)) b ⟨(m.putN a d k).cov.set (a + k) true, (m.putN a d k).byt⟩ := hm1
          have hby2 : (wr.setCell ⟨b, a + k, none⟩ (.bool true)).cell? ⟨b, 128 + (a + k), none⟩ = some (.int .u8 (((m.putN a d k).b (a + k)).toNat : Int)) := hm1.byt (a + k) (by omega)
          have hfz2 := hm1.free
          have q22 : (wr.setCell ⟨b, a + k, none⟩ (.bool true)).cell? ⟨w.heap.size, 2, none⟩ = some (.string d) := by
            rw [World.cell?_of_block (w := wr) (Below.heap_setCell _ _ _ _ hne)]; exact q2
          have hon2 : Only (· = b) w2 (wr.setCell ⟨b, a + k, none⟩ (.bool true)) := hon.setCell (by exact rfl) _
          generalize wr.setCell ⟨b, a + k, none⟩ (.bool true) = wx at *
          clear hm hm1 hfz q0 q1 q2 hby hcv hon
          go_region
          all_goals go_wp2
          go_roundw
          case rel =>
            refine ⟨k + 1, by omega, by go_num, ?_, hfr1, (hon2.setCell (by exact rfl) _).drew⟩
            have := (hm2'.setByt (a + k) (d.data.toList.getD k 0)).drew
            rw [ba_getD d k hkd] at this
            simp only [Mem.putN, Mem.put, if_pos hkd]
            rw [ba_getD d k hkd]
            exact this
          case measure => simp [intOf]; omega
        · go_wp2
          go_roundw
          case rel =>
            refine ⟨k + 1, by omega, by go_num, ?_, hfr1, hon.setCell (by exact rfl) _⟩
            simp only [Mem.putN, Mem.put, if_neg hkd]
            exact hm1
          case measure => simp [intOf]; omega
      · rw [hck] at hcv
        have hfr2 := freeN_false hck hlt
        have HFR : Hid (m.freeN a d z = false) := hfr2
        clear hfr2
        go_wp2
        go_ret
        exact ⟨by rw [HFR.out]; rfl, by rw [HFR.out]; simp, ho.trans hon⟩
    · have hkz : k = z := by omega
      subst hkz
      go_wp2
      go_ret
      exact ⟨by rw [hfr.out]; rfl, fun _ => hm, ho.trans hon⟩

set_option maxRecDepth 100000 in
set_option maxHeartbeats 1000000 in
theorem add_unfit (w : World) (b : Nat) (s : Seg) (hs : s.ok) (hf : s.fits = false) :
    Calls Tryd.prog 83 #[.pointer (some ⟨b, 0, none⟩), s.v] w fun e w' => e = .returned (.bool false) ∧ Only (· = b) w w' := by
  obtain ⟨a, z, d⟩ := s
  simp only [Seg.v]
  go_enter Tryd.func83, Tryd.ntmps83
  go_wp2_with (go_at_call 82; refine (fits_bel _ ⟨a, z, d⟩ hs).mono ?_; rintro e w2 ⟨rfl, hw2⟩; rw [hf])
  go_ret
  exact ⟨rfl, ((Only.refl _ _).alloc _).trans_below hw2⟩

theorem add_any (w : World) (b : Nat) (m : Mem) (s : Seg) (h : MemAt w b m) (hs : s.ok) :
    Calls Tryd.prog 83 #[.pointer (some ⟨b, 0, none⟩), s.v] w fun e w' => e = .returned (.bool (s.fits && m.freeS s)) ∧
      ((s.fits && m.freeS s) = true → MemAt w' b (m.putS s)) ∧ Only (· = b) w w' := by
  cases hf : s.fits
  · refine (add_unfit w b s hs hf).mono ?_
    rintro e w' ⟨rfl, ho⟩
    exact ⟨rfl, by simp, ho⟩
  · obtain ⟨a, z, d⟩ := s
    obtain ⟨f1, f2, f3, f4⟩ := (Seg.fits_iff _).1 hf
    dsimp only at f1 f2 f3 f4
    obtain ⟨a, rfl⟩ : ∃ k : Nat, a = k := ⟨a.toNat, by omega⟩
    obtain ⟨z, rfl⟩ : ∃ k : Nat, z = k := ⟨z.toNat, by omega⟩
    exact add_fit w b m a z d h (by omega) (by omega) (by omega)
end Go.Proofs.YtpfdfpeomofabaaDoor

namespace Go.Proofs.YtpfdfpeomofabaaDoor
open Go.RowKit

theorem zero86 : Tryd.zeroCells139 = memV mem0 := by kernel_rfl

theorem layAll_snoc (l : List Seg) (k : Nat) (h : k < l.length) (m : Mem) (hm : layAll (l.take k) = some m) : layAll (l.take (k + 1)) = m.step l[k] := by
  unfold layAll at *
  rw [List.take_succ_eq_append_getElem h, List.foldlM_append, hm]
  show (List.foldlM Mem.step m [l[k]]) = _
  simp
theorem layAll_none (l : List Seg) (k : Nat) (h : layAll (l.take k) = none) : layAll l = none := by
  unfold layAll at *
  rw [← List.take_append_drop k l, List.foldlM_append, h]; rfl

set_option maxRecDepth 100000 in
set_option maxHeartbeats 2000000 in
theorem lay_any (w : World) (a : Option Addr) (b o cap : Nat) (l : List Seg) (ha : l ≠ [] → a = some ⟨b, o, none⟩) (hl : SegsAt w b o l) (hok : ∀ s ∈ l, s.ok) (hb : l ≠ [] → b < w.heap.size) (hlen : l.length < 4611686018427387904) :
    Calls Tryd.prog 77 #[.slice a l.length cap] w fun e w' => (∀ m, layAll l = some m → e = .returned (.tuple #[.pointer (some ⟨w.heap.size, 0, none⟩), .bool true]) ∧ MemAt w' w.heap.size m) ∧ (layAll l = none → e = .returned (.tuple #[.pointer none, .bool false])) ∧ Below w.heap.size w w' := by
  go_enter Tryd.func77, Tryd.ntmps77
  go_wp2
  go_loopw [2, 3, 5, 6] (fun r2 r3 i r6 wr => ∃ k : Nat, k ≤ l.length ∧ i = .int .i64 k ∧ (∃ m, Hid (layAll (l.take k) = some m) ∧ MemAt wr w.heap.size m) ∧ Below w.heap.size w wr) (fun _ _ i _ _ => l.length - (intOf i).toNat)
  case atStart =>
    refine ⟨0, by omega, rfl, ⟨mem0, rfl, ⟨?_, mem0_wf⟩⟩, (Below.refl _ _).alloc (Nat.le_refl _) _⟩
    rw [heap_alloc_new, zero86]
  case round =>
    obtain ⟨k, hk, rfl, ⟨m, hlm, hm⟩, hbel⟩ := hrel
    by_cases hlt : k < l.length
    · have hne : l ≠ [] := by intro e; simp [e] at hlt
      obtain rfl := ha hne
      have hb' := hb hne
      obtain ⟨c1, c2, c3⟩ := hl k hlt
      have d1 : wr.cell? ⟨b, o + k * 3, none⟩ = some (.int .i64 l[k].addr) := (hbel.cell (p := ⟨b, o + k * 3, none⟩) hb').trans c1
      have d2 : wr.cell? ⟨b, o + k * 3 + 1, none⟩ = some (.int .i64 l[k].size) := (hbel.cell (p := ⟨b, o + k * 3 + 1, none⟩) hb').trans c2
      have d3 : wr.cell? ⟨b, o + k * 3 + 2, none⟩ = some (.string l[k].data) := (hbel.cell (p := ⟨b, o + k * 3 + 2, none⟩) hb').trans c3
      clear c1 c2 c3
      have hsok := hok l[k] (List.getElem_mem hlt)
      cases hst : (l[k].fits && m.freeS l[k])
      · have hnone : Hid (layAll l = none) := by
          apply layAll_none l (k + 1)
          rw [layAll_snoc l k hlt m hlm.out, Mem.step, hst]; rfl
        have HST : Hid ((l[k].fits && m.freeS l[k]) = false) := hst
        clear hst
        go_wp2_with (go_at_call 83; refine (add_any wr _ m l[k] hm hsok).mono ?_; rintro e w2 ⟨rfl, hm2, ho2⟩; rw [HST.out]; clear hm2)
        go_ret2
        refine ⟨fun m' hm' => ?_, fun _ => rfl, hbel.trans (ho2.below hbel.size (fun k hk => by omega))⟩
        rw [hnone.out] at hm'; cases hm'
      · have hsome : Hid (layAll (l.take (k + 1)) = some (m.putS l[k])) := by
          unfold Hid; rw [layAll_snoc l k hlt m hlm.out, Mem.step, hst]; rfl
        have HST : Hid ((l[k].fits && m.freeS l[k]) = true) := hst
        clear hst
        go_wp2_with (go_at_call 83; refine (add_any wr _ m l[k] hm hsok).mono ?_; rintro e w2 ⟨rfl, hm2, ho2⟩; rw [HST.out]; replace hm2 := hm2 HST.out)
        go_roundw
        case rel => exact ⟨k + 1, by omega, by go_num, ⟨_, hsome, hm2⟩, hbel.trans (ho2.below hbel.size (fun k hk => by omega))⟩
        case measure => simp [intOf]; omega
    · have hall : Hid (layAll l = some m) := by
        have := hlm.out
        rwa [List.take_of_length_le (by omega)] at this
      go_wp2
      go_ret2
      refine ⟨fun m' hm' => ?_, fun hn => ?_, hbel⟩
      · rw [hall.out] at hm'; cases hm'; exact ⟨rfl, hm⟩
      · rw [hall.out] at hn; cases hn

end Go.Proofs.YtpfdfpeomofabaaDoor

namespace Go.Proofs.YtpfdfpeomofabaaDoor
open Go.RowKit

theorem conv_mem (w : World) (b : Nat) (m : Mem) (h : MemAt w b m) (a n cap : Nat) (hn : a + n ≤ 128) :
    (convert 56 9 (.slice (some ⟨b, 128 + a, none⟩) n cap)).run Tryd.prog w = .ok (.string ⟨((m.byt.drop a).take n).toArray⟩) w := by
  have hbl := h.wf.2
  have hl : ((m.byt.drop a).take n).length = n := by simp; omega
  have := run_convert_bytes_back (P := Tryd.prog) w 56 9 5 ⟨b, 128 + a, none⟩ cap ((m.byt.drop a).take n) Tryd.underlying56 Tryd.underlying5 Tryd.underlying9 (by
    intro j hj
    have ha : (⟨b, 128 + a, none⟩ : Addr).add j = ⟨b, 128 + (a + j), none⟩ := by simp [Addr.add, Nat.add_assoc]
    rw [ha, h.byt (a + j) (by omega), Mem.b, getD_get _ _ (by omega)]
    simp)
  rw [hl] at this
  exact this

theorem covers_yes (w : World) (b : Nat) (m : Mem) (a : Nat) (h : MemAt w b m) (ha : a < 128) (hc : m.c a = true) :
    Calls Tryd.prog 78 #[.pointer (some ⟨b, 0, none⟩), .int .i64 a] w fun e w' => e = .returned (.bool true) ∧ w' = w := by
  refine (covers_any w b m a h).mono ?_
  rintro e w' ⟨rfl, rfl⟩
  refine ⟨?_, rfl⟩
  rw [decide_eq_true (by omega), decide_eq_true (by omega)]; simp [hc]

theorem endFrom_go {m : Mem} {e : Nat} (h : e < 128) (hc : m.c e = true) : endFrom m e = endFrom m (e + 1) := by
  rw [endFrom_eq, if_pos ⟨h, hc⟩]
theorem endFrom_stop {m : Mem} {e : Nat} (h : ¬ (e < 128 ∧ m.c e = true)) : endFrom m e = e := by
  rw [endFrom_eq, if_neg h]
theorem dataFrom_go {m : Mem} {e d : Nat} (h : e < 128) (hc : m.c e = true) : dataFrom m e d = dataFrom m (e + 1) (if m.b e = 0 then d else e + 1) := by
  rw [dataFrom_eq, if_pos ⟨h, hc⟩]
theorem dataFrom_stop {m : Mem} {e d : Nat} (h : ¬ (e < 128 ∧ m.c e = true)) : dataFrom m e d = d := by
  rw [dataFrom_eq, if_neg h]

set_option maxRecDepth 100000 in
set_option maxHeartbeats 2000000 in
theorem runAt_any (w : World) (b : Nat) (m : Mem) (a : Nat) (h : MemAt w b m) (ha : a < 128) (hc : m.c a = true) :
    Calls Tryd.prog 84 #[.pointer (some ⟨b, 0, none⟩), .int .i64 a] w fun e w' => e = .returned (runOf m a).v ∧ Below w.heap.size w w' := by
  have hbl := h.lt
  have ha' : (a : Int) < 128 := by omega
  have hen := endFrom_le m a (by omega)
  have hdb := dataFrom_bd m a a (by omega) (by omega)
  go_enter Tryd.func84, Tryd.ntmps84
  go_wp2_with (go_at_call 78; refine (covers_yes _ b m a (h.kept ((Below.refl _ _).alloc (Nat.le_refl _) _)) ha hc).mono ?_; rintro e w2 ⟨rfl, rfl⟩)
  have hm : MemAt (w.alloc (.cells #[.int .i64 0, .int .i64 0, .string ⟨#[]⟩] 109)) b m := h.kept ((Below.refl _ _).alloc (Nat.le_refl _) _)
  go_loop [5, 6] (fun x y => ∃ e de : Nat, e ≤ 128 ∧ x = .int .i64 e ∧ y = .int .i64 de ∧ de ≤ e ∧ a ≤ de ∧ a ≤ e ∧ Hid (endFrom m e = endFrom m a) ∧ Hid (dataFrom m e de = dataFrom m a a)) (fun x _ => 128 - (intOf x).toNat)
  case atStart => exact ⟨a, a, by omega, rfl, rfl, by omega, by omega, by omega, rfl, rfl⟩
  case round =>
    obtain ⟨e, de, he, rfl, rfl, h1, h2, h3, h4, h5⟩ := hrel
    by_cases hlt : e < 128
    · have c1 := hm.cov e hlt
      have c2 := hm.byt e hlt
      have hlt' : (e : Int) < 128 := by omega
      cases hce : m.c e
      · rw [hce] at c1
        have E1 : Hid (endFrom m a = e) := by unfold Hid; rw [← h4.out, endFrom_stop (by simp [hce])]
        have E2 : Hid (dataFrom m a a = de) := by unfold Hid; rw [← h5.out, dataFrom_stop (by simp [hce])]
        have hcv := conv_mem _ b m hm a (de - a) (128 - a) (by omega)
        have h2' : (a : Int) ≤ de := by omega
        have h6 : (de : Int) ≤ 128 := by omega
        have h7 : ¬ (128 : Nat) = a := by omega
        clear hen hdb
        go_wp2
        refine bodyPost_ret (v := (runOf m a).v) (by simp [results, Tryd.results84, go_sem, runOf, Seg.v, E1.out, E2.out]) rfl ⟨rfl, ?_⟩
        exact (Below.refl _ _).alloc (Nat.le_refl _) _
      · rw [hce] at c1
        have E1 : Hid (endFrom m (e + 1) = endFrom m a) := by unfold Hid; rw [← h4.out, endFrom_go hlt hce]
        cases hbe : (m.b e == 0)
        · have E2 : Hid (dataFrom m (e + 1) (e + 1) = dataFrom m a a) := by
            unfold Hid; rw [← h5.out, dataFrom_go hlt hce, if_neg (by simpa using hbe)]
          have hne : ¬ ((m.b e).toNat : Int) = 0 := by
            intro hz
            have : (m.b e).toNat = 0 := by omega
            have : m.b e = 0 := UInt8.toNat_inj.1 this
            simp [this] at hbe
          clear hbe
          go_wp2
          go_round
          case rel => exact ⟨e + 1, e + 1, by omega, by go_num, by go_num, by omega, by omega, by omega, E1, E2⟩
          case measure => simp [intOf]; omega
        · have hbz : m.b e = 0 := by simpa using hbe
          have E2 : Hid (dataFrom m (e + 1) de = dataFrom m a a) := by
            unfold Hid; rw [← h5.out, dataFrom_go hlt hce, if_pos hbz]
          rw [hbz] at c2
          have c2' : (w.alloc (.cells #[.int .i64 0, .int .i64 0, .string ⟨#[]⟩] 109)).cell? ⟨b, 128 + e, none⟩ = some (.int .u8 0) := c2
          clear hbe hbz c2
          go_wp2
          go_round
          case rel => exact ⟨e + 1, de, by omega, by go_num, rfl, by omega, by omega, by omega, E1, E2⟩
          case measure => simp [intOf]; omega
    · have he' : e = 128 := by omega
      subst he'
      have E1 : Hid (endFrom m a = 128) := by unfold Hid; rw [← h4.out, endFrom_stop (by simp)]
      have E2 : Hid (dataFrom m a a = de) := by unfold Hid; rw [← h5.out, dataFrom_stop (by simp)]
      have hcv := conv_mem _ b m hm a (de - a) (128 - a) (by omega)
      have h2' : (a : Int) ≤ de := by omega
      have h6 : (de : Int) ≤ 128 := by omega
      have h7 : ¬ (128 : Nat) = a := by omega
      clear hen hdb
      go_wp2
      refine bodyPost_ret (v := (runOf m a).v) (by simp [results, Tryd.results84, go_sem, runOf, Seg.v, E1.out, E2.out]) rfl ⟨rfl, ?_⟩
      exact (Below.refl _ _).alloc (Nat.le_refl _) _
end Go.Proofs.YtpfdfpeomofabaaDoor

namespace Go.Proofs.YtpfdfpeomofabaaDoor
open Go.RowKit

def segCells (l : List Seg) : List Value := l.flatMap fun s => [.int .i64 s.addr, .int .i64 s.size, .string s.data]
theorem segCells_length (l : List Seg) : (segCells l).length = l.length * 3 := by
  induction l with
  | nil => rfl
  | cons s r ih => simp only [segCells, List.flatMap_cons, List.length_append] at *; rw [ih]; simp; omega
theorem segCells_append (l r : List Seg) : segCells (l ++ r) = segCells l ++ segCells r := by simp [segCells]
theorem segCells_get (l : List Seg) (i : Nat) (h : i < l.length) : (segCells l)[i * 3]? = some (.int .i64 l[i].addr) ∧ (segCells l)[i * 3 + 1]? = some (.int .i64 l[i].size) ∧ (segCells l)[i * 3 + 2]? = some (.string l[i].data) := by
  have e : l = l.take i ++ (l[i] :: l.drop (i + 1)) := by rw [List.getElem_cons_drop, List.take_append_drop]
  have hl : (segCells (l.take i)).length = i * 3 := by rw [segCells_length, List.length_take]; congr 1; omega
  have e2 : segCells l = segCells (l.take i) ++ ([.int .i64 l[i].addr, .int .i64 l[i].size, .string l[i].data] ++ segCells (l.drop (i + 1))) := by
    conv => lhs; rw [e]
    rw [segCells_append]; rfl
  rw [e2]
  refine ⟨?_, ?_, ?_⟩ <;> rw [List.getElem?_append_right (by omega), hl] <;> simp [Nat.add_sub_cancel_left]

/-- from a row of the call's own to segments -/
theorem SegsAt_of_own {w : World} {base n : Nat} {v : Value} {l : List Seg} (h : w.ownsRow base 109 3 v n (segCells l)) :
    n = l.length ∧ ∃ (a : Option Addr) (b cap : Nat), v = .slice a n cap ∧ (l ≠ [] → a = some ⟨b, 0, none⟩) ∧ SegsAt w b 0 l ∧ (l ≠ [] → b < w.heap.size ∧ base ≤ b) ∧ n ≤ cap ∧ cap ≤ maxLen := by
  have hn : n = l.length := by have := h.1; rw [segCells_length] at this; omega
  refine ⟨hn, ?_⟩
  rcases h.2 with ⟨rfl, h0⟩ | ⟨g, cap, cur, rfl, hg, hh, hc1, hc2, hc3, hc4⟩
  · have hl : l = [] := List.length_eq_zero_iff.1 (by omega)
    subst hl
    exact ⟨none, 0, 0, by rw [h0], by simp, fun i hi => by simp at hi, by simp, by omega, by simp [maxLen]⟩
  · refine ⟨some ⟨g, 0, none⟩, g, cap, rfl, fun _ => rfl, ?_, fun _ => ⟨(Array.getElem?_eq_some_iff.1 hh).1, hg⟩, hc1, hc2⟩
    intro i hi
    obtain ⟨g1, g2, g3⟩ := segCells_get l i hi
    rw [← hc4] at g1 g2 g3
    have hl3 : n * 3 = l.length * 3 := by omega
    refine ⟨?_, ?_, ?_⟩
    · rw [cell_of_heap hh, ← Array.getElem?_toList, ← g1, List.getElem?_take, if_pos (by omega), Nat.zero_add]
    · rw [cell_of_heap hh, ← Array.getElem?_toList, ← g2, List.getElem?_take, if_pos (by omega), Nat.zero_add]
    · rw [cell_of_heap hh, ← Array.getElem?_toList, ← g3, List.getElem?_take, if_pos (by omega), Nat.zero_add]

theorem runsTo_succ (m : Mem) (k : Nat) : runsTo m (k + 1) = runsTo m k ++ (if isStart m k then [runOf m k] else []) := by
  unfold runsTo
  rw [List.range_succ, List.filter_append, List.map_append]
  congr 1
  by_cases h : isStart m k <;> simp [h]
theorem runsTo_length (m : Mem) (k : Nat) : (runsTo m k).length ≤ k := by
  unfold runsTo
  rw [List.length_map]
  exact Nat.le_trans (List.length_filter_le _ _) (by simp)

theorem ownsRow_below {w w' : World} {base : Nat} {e : TypeId} {size : Nat} {v : Value} {n : Nat} {xs : List Value} (h : w.ownsRow base e size v n xs) (hb : Below w.heap.size w w') : w'.ownsRow base e size v n xs := by
  refine ⟨h.1, ?_⟩
  rcases h.2 with h2 | ⟨g, cap, cur, hv, hg, hh, r⟩
  · exact Or.inl h2
  · exact Or.inr ⟨g, cap, cur, hv, hg, by rw [hb.block g (Array.getElem?_eq_some_iff.1 hh).1]; exact hh, r⟩
theorem own_lt {w : World} {base : Nat} {e : TypeId} {size : Nat} {v : Value} {n : Nat} {xs : List Value} (h : w.ownsRow base e size v n xs) : ∀ k, v.ownBlock = some k → base ≤ k := fun k hk => (h.lt k hk).1

theorem cells_new (w : World) (o : Obj) (cs : Array Value) (t : TypeId) (news : List Value) (h : cs.toList = news) :
    ∀ (j : Nat) (u : Value), news[j]? = some u → ((w.alloc o).alloc (.cells cs t)).cell? (Addr.add ⟨w.heap.size + 1, 0, none⟩ j) = some u := by
  intro j u hj
  have ha : (⟨w.heap.size + 1, 0, none⟩ : Addr).add j = ⟨w.heap.size + 1, j, none⟩ := by cases j <;> simp [Addr.add]
  rw [ha, cell_of_heap (heap_alloc2_new w o (.cells cs t)), ← hj, ← h, Array.getElem?_toList]

theorem Tryd.info109 : (Tryd.prog.info? 109).map (fun i => (i.zero, i.size, i.bytes)) = some (some (.agg #[.int .i64 0, .int .i64 0, .string ⟨#[]⟩]), 3, 32) := by kernel_rfl

theorem covers_no (w : World) (b : Nat) (m : Mem) (a : Int) (x : Bool) (h : MemAt w b m) (hx : (decide (0 ≤ a) && decide (a < 128) && m.c a.toNat) = x) :
    Calls Tryd.prog 78 #[.pointer (some ⟨b, 0, none⟩), .int .i64 a] w fun e w' => e = .returned (.bool x) ∧ w' = w := by
  rw [← hx]; exact covers_any w b m a h

set_option maxRecDepth 100000 in
set_option maxHeartbeats 4000000 in
theorem runs_any (w : World) (b : Nat) (m : Mem) (h : MemAt w b m) :
    Calls Tryd.prog 79 #[.pointer (some ⟨b, 0, none⟩)] w fun e w' => ∃ v, e = .returned v ∧ w'.ownsRow w.heap.size 109 3 v (runsOf m).length (segCells (runsOf m)) ∧ Below w.heap.size w w' := by
  obtain ⟨i0, hi, hz0, hz1, hz2⟩ := info_parts Tryd.info109
  have hbl := h.lt
  go_enter Tryd.func79, Tryd.ntmps79
  go_wp2
  go_loopw [3, 4, 5] (fun v i _ wr => ∃ k : Nat, k ≤ 128 ∧ i = .int .i64 k ∧ wr.ownsRow w.heap.size 109 3 v (runsTo m k).length (segCells (runsTo m k)) ∧ Below w.heap.size w wr) (fun _ i _ _ => 128 - (intOf i).toNat)
  case atStart => exact ⟨0, by omega, rfl, World.ownsRow_nil _ _ _ _, Below.refl _ _⟩
  case round =>
    obtain ⟨k, hk, rfl, hown, hbel⟩ := hrel
    have hm := h.kept hbel
    by_cases hlt : k < 128
    · have c1 := hm.cov k hlt
      have hlt' : (k : Int) < 128 := by omega
      cases hck : m.c k
      · rw [hck] at c1
        have hno : Hid (runsTo m (k + 1) = runsTo m k) := by unfold Hid; rw [runsTo_succ, if_neg (by simp [isStart, hck]), List.append_nil]
        go_wp2
        go_roundw
        case rel => exact ⟨k + 1, by omega, by go_num, by rw [hno.out]; exact hown, hbel⟩
        case measure => simp [intOf]; omega
      · rw [hck] at c1
        cases hst : isStart m k
        · have hno : Hid (runsTo m (k + 1) = runsTo m k) := by unfold Hid; rw [runsTo_succ, if_neg (by simp [hst]), List.append_nil]
          have hcv : (decide (0 ≤ (k : Int) - 1) && decide ((k : Int) - 1 < 128) && m.c ((k : Int) - 1).toNat) = true := by
            simp only [isStart, hck, Bool.true_and, Bool.not_eq_false', Bool.and_eq_true, decide_eq_true_eq] at hst
            rw [decide_eq_true (by omega), decide_eq_true (by omega), show ((k : Int) - 1).toNat = k - 1 by omega]
            simp [hst.2]
          have HCV := covers_no wr b m ((k : Int) - 1) true hm hcv
          clear hcv hst
          go_wp2_with (go_at_call 78; refine HCV.mono ?_; rintro e w2 ⟨rfl, rfl⟩)
          go_roundw
          case rel => exact ⟨k + 1, by omega, by go_num, by rw [hno.out]; exact hown, hbel⟩
          case measure => simp [intOf]; omega
        · have hyes : Hid (runsTo m (k + 1) = runsTo m k ++ [runOf m k]) := by unfold Hid; rw [runsTo_succ, if_pos (by simp [hst])]
          have hcv : (decide (0 ≤ (k : Int) - 1) && decide ((k : Int) - 1 < 128) && m.c ((k : Int) - 1).toNat) = false := by
            simp only [isStart, hck, Bool.true_and, Bool.not_eq_true', Bool.and_eq_false_iff, decide_eq_false_iff_not] at hst
            rcases hst with h0 | h0
            · rw [decide_eq_false (by omega)]; simp
            · by_cases hk0 : 0 < k
              · rw [show ((k : Int) - 1).toNat = k - 1 by omega, h0]; simp
              · rw [decide_eq_false (by omega)]; simp
          have HCV := covers_no wr b m ((k : Int) - 1) false hm hcv
          clear hcv hst
          have hrl := runsTo_length m k
          have hrn := runAt_any wr b m k hm hlt hck
          obtain ⟨r, hr⟩ : ∃ r, r = runOf m k := ⟨_, rfl⟩
          rw [← hr] at hyes hrn
          clear hr
          obtain ⟨x1, x2, x3⟩ := r
          have hsg : Hid (segCells (runsTo m (k + 1)) = segCells (runsTo m k) ++ [.int .i64 x1, .int .i64 x2, .string x3]) := by unfold Hid; rw [hyes.out, segCells_append]; rfl
          have hln : Hid ((runsTo m (k + 1)).length = (runsTo m k).length + 1) := by unfold Hid; rw [hyes.out]; simp
          clear hyes
          go_wp2_with (first
            | (go_at_call 78; refine HCV.mono ?_; rintro e w2 ⟨rfl, rfl⟩)
            | (go_at_call 84; refine hrn.mono ?_; rintro e w3 ⟨rfl, hb3⟩; simp only [Seg.v])
            | (at_builtin; refine wpList_append_own _ rfl _ _ 93 rfl w.heap.size 109 i0 _ 3 32 Tryd.underlying93 hi hz0 hz1 hz2 rfl (by decide) _ _ _ rfl (((ownsRow_below hown hb3).alloc _).alloc _) ⟨w3.heap.size + 1, 0, none⟩ 1 1 [.int .i64 x1, .int .i64 x2, .string x3] rfl rfl ?c1 ?c2 ?c3 ?c4 ?c5 ?_))
          case c1 => exact cells_new w3 _ _ _ _ rfl
          case c2 => intro u hu; simp at hu; rcases hu with rfl | rfl | rfl <;> rfl
          case c3 => unfold maxLen; omega
          case c4 => omega
          case c5 => have := hbel.size; have := hb3.size; simp; omega
          intro v' w4 hown4 hgr4 _
          have hbl4 : Below w.heap.size w w4 := by
            refine ((((hbel.trans (hb3.mono hbel.size)).alloc ?_ _).alloc ?_ _)).grown hgr4 ?_ ?_
            · have := hbel.size; have := hb3.size; omega
            · have := hbel.size; have := hb3.size; simp; omega
            · have := hbel.size; have := hb3.size; simp; omega
            · exact own_lt hown
          rw [← hsg.out, ← hln.out] at hown4
          clear hgr4 hown hbel hb3 hm c1
          go_wp2
          go_roundw
          case rel => exact ⟨k + 1, by omega, by go_num, hown4, hbl4⟩
          case measure => simp [intOf]; omega
    · have hk2 : k = 128 := by omega
      subst hk2
      go_wp2
      go_ret
      exact ⟨_, rfl, hown, hbel⟩
end Go.Proofs.YtpfdfpeomofabaaDoor

namespace Go.Proofs.YtpfdfpeomofabaaDoor
open Go.RowKit

def mk (l : List UInt8) : ByteArray := ⟨l.toArray⟩
theorem mk_size (l : List UInt8) : (mk l).size = l.length := by simp [mk, ByteArray.size]
theorem mk_append (a b : List UInt8) : mk a ++ mk b = mk (a ++ b) := by
  apply ByteArray.ext; rw [ByteArray.data_append]; simp [mk]
theorem mk_list (d : ByteArray) : mk d.data.toList = d := by apply ByteArray.ext; simp [mk]
theorem mk_data (l : List UInt8) : (mk l).data.toList = l := by simp [mk]
theorem mk_inj {a b : List UInt8} (h : mk a = mk b) : a = b := by
  have := congrArg (fun x => x.data.toList) h
  simpa [mk_data] using this

theorem byteOf_val (n : Int) : Value.int .u8 (n % 256) = Value.int .u8 ((byteOf n).toNat : Int) := by
  congr 1
  unfold byteOf
  rw [UInt8.toNat_ofNat']
  omega

set_option maxRecDepth 100000 in
set_option maxHeartbeats 2000000 in
theorem check_any (w : World) (l : List UInt8) (hl : l.length < 1073741824) :
    Calls Tryd.prog 86 #[.string (mk l)] w fun e w' => e = .returned (.int .i64 (checkOf l)) ∧ w' = w := by
  have hsz := mk_size l
  obtain ⟨s, hs⟩ : ∃ s, s = mk l := ⟨_, rfl⟩
  rw [← hs] at hsz ⊢
  have hsz' : s.size < 1073741824 := by omega
  have HS : Hid (s.data.toList = l) := by unfold Hid; rw [hs, mk_data]
  have HZ : Hid (s.size = l.length) := hsz
  clear hs hsz
  go_enter Tryd.func86, Tryd.ntmps86
  go_wp2
  go_loop [3, 4] (fun h i => ∃ k : Nat, k ≤ s.size ∧ i = .int .i64 k ∧ ∃ x : Nat, x < 65521 ∧ h = .int .i64 x ∧ Hid (x = checkOf (l.take k))) (fun _ i => s.size - (intOf i).toNat)
  case atStart => exact ⟨0, by omega, rfl, 1, by omega, rfl, rfl⟩
  case round =>
    obtain ⟨k, hk, rfl, x, hx, rfl, hc⟩ := hrel
    by_cases hlt : k < s.size
    · have hlt' : (k : Int) < s.size := by omega
      have hb : (s[k].toNat : Int) < 256 := by have := s[k].toNat_lt; omega
      have hlk : k < l.length := by rw [← HZ.out]; exact hlt
      have HN : Hid ((31 * x + s[k].toNat) % 65521 = checkOf (l.take (k + 1))) := by
        unfold Hid
        rw [List.take_succ_eq_append_getElem hlk]
        have e : s[k] = l[k] := by
          have h1 := ba_getD s k hlt
          rw [HS.out, getD_get l k hlk] at h1
          exact h1.symm
        rw [checkOf, List.foldl_append, e]
        have := hc.out
        unfold checkOf at this
        rw [← this]; rfl
      go_wp2
      go_round
      case rel => exact ⟨k + 1, by omega, by go_num, _, Nat.mod_lt _ (by decide), by go_num, HN⟩
      case measure => simp [intOf]; omega
    · have hks : Hid (x = checkOf l) := by
        have := hc.out
        rwa [List.take_of_length_le (by rw [← HZ.out]; omega)] at this
      go_wp2
      go_ret
      exact ⟨by rw [← hks.out]; rfl, rfl⟩

theorem conv_cells (w : World) (g cap : Nat) (cs : Array Value) (l : List UInt8) (fz : Nat × Nat) (hg : w.heap[g]? = some (.cells cs 5 fz)) (hcs : cs = bytesV l) :
    (convert 56 9 (.slice (some ⟨g, 0, none⟩) l.length cap)).run Tryd.prog w = .ok (.string (mk l)) w := by
  subst hcs
  have := conv_row w g 0 l.length cap l fz hg (by omega)
  rw [List.drop_zero, List.take_of_length_le (Nat.le_refl _)] at this
  exact this
theorem conv_new3 (w : World) (o : Obj) (x y z : Int) :
    (convert 56 9 (.slice (some ⟨w.heap.size + 1, 0, none⟩) 3 3)).run Tryd.prog ((w.alloc o).alloc (.cells #[.int .u8 (x % 256), .int .u8 (y % 256), .int .u8 (z % 256)] 5)) =
      .ok (.string (mk [byteOf x, byteOf y, byteOf z])) ((w.alloc o).alloc (.cells #[.int .u8 (x % 256), .int .u8 (y % 256), .int .u8 (z % 256)] 5)) :=
  conv_cells _ _ 3 _ [byteOf x, byteOf y, byteOf z] _ (heap_alloc2_new w o _) (by simp [bytesV, byteOf_val])

set_option maxRecDepth 100000 in
set_option maxHeartbeats 2000000 in
theorem encodeRun_any (w : World) (s : Seg) (h : s.ok) (hd : s.data.size ≤ 1073741824) :
    Calls Tryd.prog 85 #[s.v] w fun e w' => e = .returned (.string (mk (runBytes s))) ∧ Below w.heap.size w w' := by
  obtain ⟨a, z, d⟩ := s
  obtain ⟨s0, s1, s2, s3, s4⟩ := h
  dsimp only at s0 s1 s2 s3 s4 hd
  simp only [Seg.v]
  have hcv := conv_new3 w (.cells #[.int .i64 a, .int .i64 z, .string d] 109) a z d.size
  obtain ⟨q, hq⟩ : ∃ q, q = mk [byteOf a, byteOf z, byteOf d.size] := ⟨_, rfl⟩
  have hqs : q.size = 3 := by rw [hq, mk_size]; rfl
  rw [← hq] at hcv
  have HQ : Hid (q ++ d = mk (runBytes ⟨a, z, d⟩)) := by
    unfold Hid; rw [hq, ← mk_list d, mk_append, mk_list]; rfl
  clear hq
  go_enter Tryd.func85, Tryd.ntmps85
  go_wp2
  go_ret
  exact ⟨ret_str HQ.out, ((Below.refl _ _).alloc (Nat.le_refl _) _).alloc (by simp) _⟩

end Go.Proofs.YtpfdfpeomofabaaDoor

namespace Go.Proofs.YtpfdfpeomofabaaDoor
open Go.RowKit

theorem byteOf_id (n : Int) (h0 : 0 ≤ n) (h1 : n < 256) : Value.int .u8 n = Value.int .u8 ((byteOf n).toNat : Int) := by
  have e := byteOf_val n
  rwa [Int.emod_eq_of_lt h0 h1] at e
/-- a row of bytes that is built in a statement -/
theorem conv_head (w : World) (o : Obj) (x y z u : Int) (x0 : 0 ≤ x ∧ x < 256) (y0 : 0 ≤ y ∧ y < 256) (z0 : 0 ≤ z ∧ z < 256) (u0 : 0 ≤ u ∧ u < 256) :
    (convert 56 9 (.slice (some ⟨w.heap.size + 1, 0, none⟩) 6 6)).run Tryd.prog ((w.alloc o).alloc (.cells #[.int .u8 84, .int .u8 66, .int .u8 x, .int .u8 y, .int .u8 z, .int .u8 u] 5)) =
      .ok (.string (mk [84, 66, byteOf x, byteOf y, byteOf z, byteOf u])) ((w.alloc o).alloc (.cells #[.int .u8 84, .int .u8 66, .int .u8 x, .int .u8 y, .int .u8 z, .int .u8 u] 5)) :=
  conv_cells _ _ 6 _ [84, 66, byteOf x, byteOf y, byteOf z, byteOf u] _ (heap_alloc2_new w o _) (by
    rw [byteOf_id x x0.1 x0.2, byteOf_id y y0.1 y0.2, byteOf_id z z0.1 z0.2, byteOf_id u u0.1 u0.2]; rfl)
theorem conv_tail (w : World) (x y : Int) (x0 : 0 ≤ x ∧ x < 256) (y0 : 0 ≤ y ∧ y < 256) :
    (convert 56 9 (.slice (some ⟨w.heap.size, 0, none⟩) 2 2)).run Tryd.prog (w.alloc (.cells #[.int .u8 x, .int .u8 y] 5)) =
      .ok (.string (mk [byteOf x, byteOf y])) (w.alloc (.cells #[.int .u8 x, .int .u8 y] 5)) :=
  conv_cells _ _ 2 _ [byteOf x, byteOf y] _ (heap_alloc_new w _) (by
    rw [byteOf_id x x0.1 x0.2, byteOf_id y y0.1 y0.2]; rfl)

theorem flat_len (l : List Seg) (n : Nat) (h : ∀ s ∈ l, s.data.size ≤ n) : (l.flatMap runBytes).length ≤ l.length * (n + 3) := by
  induction l with
  | nil => simp
  | cons s r ih =>
    have h1 := h s (by simp)
    have h2 := ih (fun x hx => h x (by simp [hx]))
    have h3 : s.data.data.toList.length = s.data.size := rfl
    simp only [List.flatMap_cons, List.length_append, List.length_cons, runBytes, List.length_nil, h3]
    have : (r.length + 1) * (n + 3) = r.length * (n + 3) + (n + 3) := by rw [Nat.add_mul]; omega
    omega

set_option maxRecDepth 100000 in
set_option maxHeartbeats 4000000 in
theorem encode_any (w : World) (v e : Int) (a : Option Addr) (b o cap : Nat) (l : List Seg) (ha : l ≠ [] → a = some ⟨b, o, none⟩) (hl : SegsAt w b o l) (hok : ∀ s ∈ l, s.ok ∧ s.data.size ≤ 128) (hb : l ≠ [] → b < w.heap.size) (hlen : l.length ≤ 128)
    (hv0 : 0 ≤ v) (hv1 : v ≤ 65535) (he0 : 0 ≤ e) (he1 : e < 128) :
    Calls Tryd.prog 80 #[.agg #[.int .i64 v, .int .i64 e, .slice a l.length cap]] w fun en w' => en = .returned (.string (mk (textOf v e l))) ∧ Below w.heap.size w w' := by
  have hcv := conv_head w (.cells #[.int .i64 v, .int .i64 e, .slice a l.length cap] 117) (v / 256) (v % 256) e l.length (by omega) (by omega) (by omega) (by omega)
  obtain ⟨hd, hhd⟩ : ∃ hd, hd = [84, 66, byteOf (v / 256), byteOf (v % 256), byteOf e, byteOf l.length] := ⟨_, rfl⟩
  rw [← hhd] at hcv
  have hdl : hd.length = 6 := by rw [hhd]; rfl
  have HB : Hid (bodyOf v e l = hd ++ l.flatMap runBytes) := by unfold Hid; rw [hhd]; rfl
  have HT : Hid (textOf v e l = bodyOf v e l ++ [byteOf (checkOf (bodyOf v e l) / 256 : Nat), byteOf (checkOf (bodyOf v e l) % 256 : Nat)]) := rfl
  clear hhd
  go_enter Tryd.func80, Tryd.ntmps80
  go_wp2
  go_loopw [4, 5] (fun t i wr => ∃ k : Nat, k ≤ l.length ∧ i = .int .i64 k ∧ (∃ q : ByteArray, t = .string q ∧ q.size ≤ 20000 ∧ Hid (q = mk (hd ++ (l.take k).flatMap runBytes))) ∧ wr.heap[w.heap.size]? = some (.cells #[.int .i64 v, .int .i64 e, .slice a l.length cap] 117 (0, 0)) ∧ Below w.heap.size w wr) (fun _ i _ => l.length - (intOf i).toNat)
  case atStart =>
    refine ⟨0, by omega, rfl, ⟨_, rfl, by rw [mk_size, hdl]; omega, by simp [Hid]⟩, by rw [heap_alloc2_old], ((Below.refl _ _).alloc (Nat.le_refl _) _).alloc (by simp) _⟩
  case round =>
    obtain ⟨k, hk, rfl, ⟨q, rfl, hq, hqe⟩, hbx, hbel⟩ := hrel
    have d0 : wr.cell? ⟨w.heap.size, 2, none⟩ = some (.slice a l.length cap) := by rw [cell_of_heap hbx]; rfl
    have hlen' : (l.length : Int) ≤ 128 := by omega
    by_cases hlt : k < l.length
    · have hne : l ≠ [] := by intro e; simp [e] at hlt
      obtain rfl := ha hne
      have hb' := hb hne
      obtain ⟨c1, c2, c3⟩ := hl k hlt
      have d1 : wr.cell? ⟨b, o + k * 3, none⟩ = some (.int .i64 l[k].addr) := (hbel.cell (p := ⟨b, o + k * 3, none⟩) hb').trans c1
      have d2 : wr.cell? ⟨b, o + k * 3 + 1, none⟩ = some (.int .i64 l[k].size) := (hbel.cell (p := ⟨b, o + k * 3 + 1, none⟩) hb').trans c2
      have d3 : wr.cell? ⟨b, o + k * 3 + 2, none⟩ = some (.string l[k].data) := (hbel.cell (p := ⟨b, o + k * 3 + 2, none⟩) hb').trans c3
      clear c1 c2 c3
      have hsok := hok l[k] (List.getElem_mem hlt)
      have hR := encodeRun_any wr l[k] hsok.1 (by have := hsok.2; omega)
      have hrl : (mk (runBytes l[k])).size ≤ 131 := by
        rw [mk_size]
        have h3 : l[k].data.data.toList.length = l[k].data.size := rfl
        simp only [runBytes, List.length_append, List.length_cons, List.length_nil, h3]
        have := hsok.2; omega
      have hq2 : Hid (q ++ mk (runBytes l[k]) = mk (hd ++ (l.take (k + 1)).flatMap runBytes)) := by
        unfold Hid
        rw [hqe.out, mk_append, List.take_succ_eq_append_getElem hlt, List.flatMap_append, List.append_assoc]; simp
      have hq3 : Hid ((mk (hd ++ (l.take (k + 1)).flatMap runBytes)).size ≤ 20000) := by
        unfold Hid
        rw [mk_size, List.length_append, hdl]
        have := flat_len (l.take (k + 1)) 128 (fun s hs => (hok s (List.mem_of_mem_take hs)).2)
        have hlt2 : (l.take (k + 1)).length ≤ 128 := by simp; omega
        have : (l.take (k + 1)).length * 131 ≤ 128 * 131 := Nat.mul_le_mul_right _ hlt2
        omega
      obtain ⟨rb, hrb⟩ : ∃ rb, rb = mk (runBytes l[k]) := ⟨_, rfl⟩
      rw [← hrb] at hR hrl hq2
      clear hrb
      go_wp2_with (go_at_call 85; refine hR.mono ?_; rintro en w2 ⟨rfl, hb2⟩)
      go_roundw
      case rel =>
        refine ⟨k + 1, by omega, by go_num, ⟨_, rfl, ?_, hq2⟩, ?_, hbel.trans (hb2.mono hbel.size)⟩
        · rw [hq2.out]; exact hq3.out
        · rw [hb2.block _ (Array.getElem?_eq_some_iff.1 hbx).1]; exact hbx
      case measure => simp [intOf]; omega
    · have hqb : Hid (q = mk (bodyOf v e l)) := by
        unfold Hid; rw [hqe.out, List.take_of_length_le (by omega), HB.out]
      have hck := check_any wr (bodyOf v e l) (by
        have := hq
        rw [hqb.out, mk_size] at this
        omega)
      rw [← hqb.out] at hck
      obtain ⟨x, hx⟩ : ∃ x, x = checkOf (bodyOf v e l) := ⟨_, rfl⟩
      have hxl : (x : Int) < 65521 := by have := checkOf_lt (bodyOf v e l); omega
      rw [← hx] at hck
      have hct := conv_tail wr ((x : Int) / 256) ((x : Int) % 256) (by omega) (by omega)
      have HF : Hid (q ++ mk [byteOf ((x : Int) / 256), byteOf ((x : Int) % 256)] = mk (textOf v e l)) := by
        unfold Hid
        rw [hqb.out, mk_append, HT.out, ← hx]
        congr 3
      obtain ⟨tl, htl⟩ : ∃ tl, tl = mk [byteOf ((x : Int) / 256), byteOf ((x : Int) % 256)] := ⟨_, rfl⟩
      have htz : tl.size = 2 := by rw [htl, mk_size]; rfl
      rw [← htl] at hct HF
      clear hx htl
      go_wp2_with (go_at_call 86; refine hck.mono ?_; rintro en w2 ⟨rfl, rfl⟩)
      go_ret
      exact ⟨ret_str HF.out, hbel.alloc hbel.size _⟩
end Go.Proofs.YtpfdfpeomofabaaDoor

namespace Go.Proofs.YtpfdfpeomofabaaDoor
open Go.RowKit

theorem runsOf_ok {m : Mem} (h : m.wf) : ∀ s ∈ runsOf m, s.ok ∧ s.data.size ≤ 128 := by
  intro s hs
  unfold runsOf runsTo at hs
  obtain ⟨a, ha, rfl⟩ := List.mem_map.1 hs
  have ha' : a < 128 := by have := (List.mem_filter.1 ha).1; simpa using this
  have h1 := endFrom_le m a (by omega)
  have h2 := endFrom_ge m a
  have h3 : (runOf m a).data.size ≤ 128 := by
    show ((m.byt.drop a).take (dataFrom m a a - a)).toArray.size ≤ 128
    rw [List.size_toArray, List.length_take, List.length_drop, h.2]; omega
  refine ⟨⟨?_, ?_, ?_, ?_, by omega⟩, h3⟩ <;> simp only [runOf] <;> omega

theorem Mem.step_wf {m m' : Mem} {s : Seg} (h : m.wf) (hs : m.step s = some m') : m'.wf := by
  unfold Mem.step at hs
  split at hs
  · cases hs; exact Mem.putN_wf h _ _ _
  · cases hs
theorem foldlM_wf (l : List Seg) : ∀ {m m' : Mem}, m.wf → l.foldlM Mem.step m = some m' → m'.wf := by
  induction l with
  | nil => intro m m' h hs; cases hs; exact h
  | cons s r ih =>
    intro m m' h hs
    rw [List.foldlM_cons] at hs
    cases hst : m.step s with
    | none => rw [hst] at hs; cases hs
    | some m1 => rw [hst] at hs; exact ih (Mem.step_wf h hst) hs
theorem layAll_wf {l : List Seg} {m : Mem} (h : layAll l = some m) : m.wf := foldlM_wf l mem0_wf h

set_option maxRecDepth 100000 in
set_option maxHeartbeats 4000000 in
theorem pack_any (w : World) (v e : Int) (a : Option Addr) (b o cap : Nat) (l : List Seg) (ha : l ≠ [] → a = some ⟨b, o, none⟩) (hl : SegsAt w b o l) (hok : ∀ s ∈ l, s.ok) (hb : l ≠ [] → b < w.heap.size) (hlen : l.length < 4611686018427387904) :
    Calls Tryd.prog 67 #[.int .i64 v, .int .i64 e, .slice a l.length cap] w fun en w' => en = .returned (.tuple #[.string (mk (packM v e l).1), .int .i64 (packM v e l).2]) ∧ Below w.heap.size w w' := by
  by_cases hv0 : v < 0
  · have hp : packM v e l = ([], 1) := by unfold packM; rw [if_pos (Or.inl hv0)]
    rw [hp]; clear hp
    go_enter Tryd.func67, Tryd.ntmps67
    go_wp2
    go_ret2
    exact ⟨rfl, Below.refl _ _⟩
  by_cases hv1 : 65535 < v
  · have hp : packM v e l = ([], 1) := by unfold packM; rw [if_pos (Or.inr hv1)]
    rw [hp]; clear hp
    go_enter Tryd.func67, Tryd.ntmps67
    go_wp2
    go_ret2
    exact ⟨rfl, Below.refl _ _⟩
  have hvv : ¬ (v < 0 ∨ 65535 < v) := by omega
  have hAF := allFit_any w a b o cap l ha hl hok hb hlen
  cases haf : allFit l
  · have hp : packM v e l = ([], 2) := by unfold packM; rw [if_neg hvv, if_pos haf]
    rw [hp]; clear hp
    rw [haf] at hAF
    go_enter Tryd.func67, Tryd.ntmps67
    go_wp2_with (go_at_call 76; refine hAF.mono ?_; rintro en w2 ⟨rfl, hb2⟩)
    go_ret2
    exact ⟨rfl, hb2⟩
  rw [haf] at hAF
  have HL : ∀ w2, Below w.heap.size w w2 → SegsAt w2 b o l := by
    intro w2 hb2 i hi
    have hne : l ≠ [] := by intro e; simp [e] at hi
    obtain ⟨c1, c2, c3⟩ := hl i hi
    exact ⟨(hb2.cell (p := ⟨b, o + i * 3, none⟩) (hb hne)).trans c1, (hb2.cell (p := ⟨b, o + i * 3 + 1, none⟩) (hb hne)).trans c2, (hb2.cell (p := ⟨b, o + i * 3 + 2, none⟩) (hb hne)).trans c3⟩
  have HLN : layAll l = none → ∀ w2, Below w.heap.size w w2 → Calls Tryd.prog 77 #[.slice a l.length cap] w2 fun e w' => e = .returned (.tuple #[.pointer none, .bool false]) ∧ Below w2.heap.size w2 w' :=
    fun hn w2 hb2 => (lay_any w2 a b o cap l ha (HL w2 hb2) hok (fun h => Nat.lt_of_lt_of_le (hb h) hb2.size) hlen).mono fun e w' hh => ⟨hh.2.1 hn, hh.2.2⟩
  have HLS : ∀ m, layAll l = some m → ∀ w2, Below w.heap.size w w2 → Calls Tryd.prog 77 #[.slice a l.length cap] w2 fun e w' => e = .returned (.tuple #[.pointer (some ⟨w2.heap.size, 0, none⟩), .bool true]) ∧ MemAt w' w2.heap.size m ∧ Below w2.heap.size w2 w' :=
    fun m hn w2 hb2 => (lay_any w2 a b o cap l ha (HL w2 hb2) hok (fun h => Nat.lt_of_lt_of_le (hb h) hb2.size) hlen).mono fun e w' hh => ⟨(hh.1 m hn).1, (hh.1 m hn).2, hh.2.2⟩
  cases hly : layAll l with
  | none =>
    have hp : packM v e l = ([], 3) := by unfold packM; rw [if_neg hvv, if_neg (by simp [haf]), hly]
    rw [hp]; clear hp
    have HLY := HLN hly
    clear HLN HLS
    go_enter Tryd.func67, Tryd.ntmps67
    go_wp2_with (first
      | (go_at_call 76; refine hAF.mono ?_; rintro en w2 ⟨rfl, hb2⟩)
      | (go_at_call 77; refine (HLY _ hb2).mono ?_; rintro en w3 ⟨rfl, hb3⟩))
    go_ret2
    exact ⟨rfl, hb2.trans (hb3.mono hb2.size)⟩
  | some m =>
    have hp : packM v e l = (if ¬ (0 ≤ e ∧ e < 128 ∧ m.c e.toNat = true) then ([], 4)
      else if 120 < (textOf v e (runsOf m)).length then ([], 5)
      else (textOf v e (runsOf m), 0)) := by unfold packM; rw [if_neg hvv, if_neg (by simp [haf]), hly]
    have HLY := HLS m hly
    clear HLN HLS
    have hmw := layAll_wf hly
    cases hce : (decide (0 ≤ e) && decide (e < 128) && m.c e.toNat)
    · rw [if_pos (by intro hh; rw [decide_eq_true hh.1, decide_eq_true hh.2.1, hh.2.2] at hce; simp at hce)] at hp
      rw [hp]; clear hp
      go_enter Tryd.func67, Tryd.ntmps67
      go_wp2_with (first
        | (go_at_call 76; refine hAF.mono ?_; rintro en w2 ⟨rfl, hb2⟩)
        | (go_at_call 77; refine (HLY _ hb2).mono ?_; rintro en w3 ⟨rfl, hm3, hb3⟩)
        | (go_at_call 78; refine (covers_no _ _ m e false hm3 hce).mono ?_; rintro en w4 ⟨rfl, rfl⟩))
      go_ret2
      exact ⟨rfl, hb2.trans (hb3.mono hb2.size)⟩
    · simp only [Bool.and_eq_true, decide_eq_true_eq] at hce
      obtain ⟨⟨he0, he1⟩, hc⟩ := hce
      rw [if_neg (by simp [he0, he1, hc])] at hp
      have hce2 : (decide (0 ≤ e) && decide (e < 128) && m.c e.toNat) = true := by simp [he0, he1, hc]
      have HCE : Hid ((decide (0 ≤ e) && decide (e < 128) && m.c e.toNat) = true) := hce2
      clear hce2
      have hro := runsOf_ok hmw
      have hrl := runsTo_length m 128
      have hrl' : (runsOf m).length ≤ 128 := hrl
      obtain ⟨rs, hrs⟩ : ∃ rs, rs = runsOf m := ⟨_, rfl⟩
      have HR : ∀ w3 g, MemAt w3 g m → Calls Tryd.prog 79 #[.pointer (some ⟨g, 0, none⟩)] w3 fun e w' => ∃ (a : Option Addr) (b cap : Nat), e = .returned (.slice a rs.length cap) ∧ (rs ≠ [] → a = some ⟨b, 0, none⟩) ∧ SegsAt w' b 0 rs ∧ (rs ≠ [] → b < w'.heap.size) ∧ Below w3.heap.size w3 w' := by
        intro w3 g hm3
        refine (runs_any w3 g m hm3).mono ?_
        rintro en w' ⟨vv, rfl, hown, hb⟩
        rw [← hrs] at hown
        obtain ⟨_, a1, b1, cap1, rfl, h1, h2, h3, _, _⟩ := SegsAt_of_own hown
        exact ⟨a1, b1, cap1, rfl, h1, h2, fun h => (h3 h).1, hb⟩
      rw [← hrs] at hro hrl' hp
      clear hrs hrl
      have HE : ∀ (w4 : World) (a1 : Option Addr) (b1 cap1 : Nat), (rs ≠ [] → a1 = some ⟨b1, 0, none⟩) → SegsAt w4 b1 0 rs → (rs ≠ [] → b1 < w4.heap.size) → Calls Tryd.prog 80 #[.agg #[.int .i64 v, .int .i64 e, .slice a1 rs.length cap1]] w4 fun en w' => en = .returned (.string (mk (textOf v e rs))) ∧ Below w4.heap.size w4 w' :=
        fun w4 a1 b1 cap1 h1 h2 h3 => encode_any w4 v e a1 b1 0 cap1 rs h1 h2 hro h3 hrl' (by omega) (by omega) he0 he1
      have hts := mk_size (textOf v e rs)
      obtain ⟨t, ht⟩ : ∃ t, t = mk (textOf v e rs) := ⟨_, rfl⟩
      rw [← ht] at HE hts
      have HT : Hid (t = mk (textOf v e rs)) := ht
      by_cases hbig : 120 < (textOf v e rs).length
      · rw [if_pos hbig] at hp
        rw [hp]
        have hbig' : 120 < (t.size : Int) := by omega
        clear hp ht hts hbig hrl' hro
        go_enter Tryd.func67, Tryd.ntmps67
        go_wp2_with (first
          | (go_at_call 76; refine hAF.mono ?_; rintro en w2 ⟨rfl, hb2⟩)
          | (go_at_call 77; refine (HLY _ hb2).mono ?_; rintro en w3 ⟨rfl, hm3, hb3⟩)
          | (go_at_call 78; refine (covers_no _ _ m e true hm3 HCE.out).mono ?_; rintro en w4 ⟨rfl, rfl⟩)
          | (go_at_call 79; refine (HR _ _ hm3).mono ?_; rintro en w5 ⟨a1, b1, cap1, rfl, r1, r2, r3, hb5⟩)
          | (go_at_call 80; refine (HE _ a1 b1 cap1 r1 r2 r3).mono ?_; rintro en w6 ⟨rfl, hb6⟩))
        go_ret2
        exact ⟨rfl, ((hb2.trans (hb3.mono hb2.size)).trans (hb5.mono (Nat.le_trans hb2.size hb3.size))).trans (hb6.mono (Nat.le_trans (Nat.le_trans hb2.size hb3.size) hb5.size))⟩
      · rw [if_neg hbig] at hp
        rw [hp]
        have hbig' : (t.size : Int) ≤ 120 := by omega
        clear hp ht hts hbig hrl' hro
        go_enter Tryd.func67, Tryd.ntmps67
        go_wp2_with (first
          | (go_at_call 76; refine hAF.mono ?_; rintro en w2 ⟨rfl, hb2⟩)
          | (go_at_call 77; refine (HLY _ hb2).mono ?_; rintro en w3 ⟨rfl, hm3, hb3⟩)
          | (go_at_call 78; refine (covers_no _ _ m e true hm3 HCE.out).mono ?_; rintro en w4 ⟨rfl, rfl⟩)
          | (go_at_call 79; refine (HR _ _ hm3).mono ?_; rintro en w5 ⟨a1, b1, cap1, rfl, r1, r2, r3, hb5⟩)
          | (go_at_call 80; refine (HE _ a1 b1 cap1 r1 r2 r3).mono ?_; rintro en w6 ⟨rfl, hb6⟩))
        go_ret2
        refine ⟨?_, ((hb2.trans (hb3.mono hb2.size)).trans (hb5.mono (Nat.le_trans hb2.size hb3.size))).trans (hb6.mono (Nat.le_trans (Nat.le_trans hb2.size hb3.size) hb5.size))⟩
        rw [← HT.out]; rfl

end Go.Proofs.YtpfdfpeomofabaaDoor
