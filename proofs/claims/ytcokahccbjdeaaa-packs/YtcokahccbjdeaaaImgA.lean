import Derived.Test.YtcokahccbjdeaaaImgM
import Derived.Test.YtcokahccbjdeaaaChipD
namespace Go.Proofs.Ytcokahccbjdeaaa
open Go.RowKit

def Seg.v (s : Seg) : Value := .agg #[.int .i64 s.addr, .int .i64 s.size, .string s.data]
/-- a segment's numbers fit their kinds, its text is no longer than any can be -/
structure Seg.ok (s : Seg) : Prop where
  a0 : -9223372036854775808 ≤ s.addr
  a1 : s.addr < 9223372036854775808
  s0 : -9223372036854775808 ≤ s.size
  s1 : s.size < 9223372036854775808
  d1 : s.data.size < 4611686018427387904

/-- segments lie in memory, three cells each -/
def SegsAt (w : World) (b o : Nat) (l : List Seg) : Prop :=
  ∀ i (h : i < l.length), w.cell? ⟨b, o + i * 3, none⟩ = some (.int .i64 l[i].addr) ∧ w.cell? ⟨b, o + i * 3 + 1, none⟩ = some (.int .i64 l[i].size) ∧ w.cell? ⟨b, o + i * 3 + 2, none⟩ = some (.string l[i].data)

set_option maxRecDepth 100000 in
set_option maxHeartbeats 1000000 in
theorem fits_any (w : World) (s : Seg) (h : s.ok) :
    Calls Try.prog 62 #[s.v] w fun e w' => e = .returned (.bool s.fits) ∧ w' = w.alloc (.cells #[.int .i64 s.addr, .int .i64 s.size, .string s.data] 43) := by
  obtain ⟨a, z, d⟩ := s
  obtain ⟨a0, a1, s0, s1, d1⟩ := h
  simp only [Seg.v] at *
  by_cases h1 : a < 0
  · have hf : Seg.fits ⟨a, z, d⟩ = false := by simp [Seg.fits]; omega
    rw [hf]; clear hf
    go_enter Try.func62, Try.ntmps62
    go_wp2
    go_ret
    exact ⟨rfl, rfl⟩
  by_cases h2 : z < 1
  · have hf : Seg.fits ⟨a, z, d⟩ = false := by simp [Seg.fits]; omega
    rw [hf]; clear hf
    go_enter Try.func62, Try.ntmps62
    go_wp2
    go_ret
    exact ⟨rfl, rfl⟩
  by_cases h3 : a ≤ 128 - z
  · have hf : Seg.fits ⟨a, z, d⟩ = decide ((d.size : Int) ≤ z) := by simp only [Seg.fits]; simp [show 0 ≤ a by omega, show 1 ≤ z by omega, h3]
    rw [hf]; clear hf
    go_enter Try.func62, Try.ntmps62
    go_wp2
    go_ret
    exact ⟨rfl, rfl⟩
  · have hf : Seg.fits ⟨a, z, d⟩ = false := by simp [Seg.fits, h3]
    rw [hf]; clear hf
    go_enter Try.func62, Try.ntmps62
    go_wp2
    go_ret
    exact ⟨rfl, rfl⟩

set_option maxRecDepth 100000 in
set_option maxHeartbeats 1000000 in
theorem allFit_any (w : World) (a : Option Addr) (b o cap : Nat) (l : List Seg) (ha : l ≠ [] → a = some ⟨b, o, none⟩) (hl : SegsAt w b o l) (hok : ∀ s ∈ l, s.ok) (hb : l ≠ [] → b < w.heap.size) (hlen : l.length < 4611686018427387904) :
    Calls Try.prog 56 #[.slice a l.length cap] w fun e w' => e = .returned (.bool (allFit l)) ∧ Below w.heap.size w w' := by
  by_cases h1 : l.length < 1
  · have hf : allFit l = false := by simp only [allFit]; rw [decide_eq_false (by omega)]; rfl
    rw [hf]; clear hf
    have h1' : (l.length : Int) < 1 := by omega
    clear hl hok
    go_enter Try.func56, Try.ntmps56
    go_wp2
    go_ret
    exact ⟨rfl, Below.refl _ _⟩
  by_cases h2 : 8 < l.length
  · have hf : allFit l = false := by simp only [allFit]; rw [decide_eq_false (show ¬ l.length ≤ 8 by omega)]; simp
    rw [hf]; clear hf
    have h1' : ¬ (l.length : Int) < 1 := by omega
    have h2' : 8 < (l.length : Int) := by omega
    clear hl hok
    go_enter Try.func56, Try.ntmps56
    go_wp2
    go_ret
    exact ⟨rfl, Below.refl _ _⟩
  · have hf : allFit l = l.all Seg.fits := by simp only [allFit]; rw [decide_eq_true (show 1 ≤ l.length by omega), decide_eq_true (show l.length ≤ 8 by omega)]; simp
    rw [hf]; clear hf
    have hne : l ≠ [] := by intro e; simp [e] at h1
    obtain rfl := ha hne
    have hb' := hb hne
    clear ha hb
    have h1' : ¬ (l.length : Int) < 1 := by omega
    have h2' : ¬ 8 < (l.length : Int) := by omega
    go_enter Try.func56, Try.ntmps56
    go_wp2
    go_loopw [3] (fun i wr => ∃ k : Nat, k ≤ l.length ∧ i = .int .i64 k ∧ Hid ((l.take k).all Seg.fits = true) ∧ Below w.heap.size w wr) (fun i _ => l.length - (intOf i).toNat)
    case atStart => exact ⟨0, by omega, rfl, rfl, Below.refl _ _⟩
    case round =>
      obtain ⟨k, hk, rfl, hfit, hbel⟩ := hrel
      by_cases hlt : k < l.length
      · obtain ⟨c1, c2, c3⟩ := hl k hlt
        have d1 : wr.cell? ⟨b, o + k * 3, none⟩ = some (.int .i64 l[k].addr) := (hbel.cell (p := ⟨b, o + k * 3, none⟩) hb').trans c1
        have d2 : wr.cell? ⟨b, o + k * 3 + 1, none⟩ = some (.int .i64 l[k].size) := (hbel.cell (p := ⟨b, o + k * 3 + 1, none⟩) hb').trans c2
        have d3 : wr.cell? ⟨b, o + k * 3 + 2, none⟩ = some (.string l[k].data) := (hbel.cell (p := ⟨b, o + k * 3 + 2, none⟩) hb').trans c3
        clear c1 c2 c3
        have hsok := hok l[k] (List.getElem_mem hlt)
        cases hfk : l[k].fits
        · have hall : Hid (l.all Seg.fits = false) := by
            unfold Hid
            rw [Bool.eq_false_iff, ne_eq, List.all_eq_true]
            intro h
            have := h l[k] (List.getElem_mem hlt)
            rw [hfk] at this; cases this
          go_wp2_with (go_at_call 62; refine (fits_any wr l[k] hsok).mono ?_; rintro e w2 ⟨rfl, rfl⟩; rw [hfk])
          go_ret
          exact ⟨by rw [hall.out]; rfl, hbel.alloc hbel.size _⟩
        · have hall : Hid ((l.take (k + 1)).all Seg.fits = true) := by
            unfold Hid
            rw [List.take_succ_eq_append_getElem hlt, List.all_append, hfit.out]; simp [hfk]
          go_wp2_with (go_at_call 62; refine (fits_any wr l[k] hsok).mono ?_; rintro e w2 ⟨rfl, rfl⟩; rw [hfk])
          go_roundw
          case rel => exact ⟨k + 1, by omega, by go_num, hall, hbel.alloc hbel.size _⟩
          case measure => simp [intOf]; omega
      · have hall : Hid (l.all Seg.fits = true) := by
          have := hfit.out
          rwa [List.take_of_length_le (by omega)] at this
        go_wp2
        go_ret
        exact ⟨by rw [hall.out]; rfl, hbel⟩

/-! the memory's picture, in a block of the call's own -/
def memV (m : Mem) : Array Value := (m.cov.map Value.bool ++ m.byt.map (fun x => Value.int .u8 (x.toNat : Int))).toArray

theorem memV_cov {m : Mem} (h : m.wf) (a : Nat) (ha : a < 128) : (memV m)[a]? = some (.bool (m.c a)) := by
  obtain ⟨h1, h2⟩ := h
  simp only [memV, Mem.c, List.getElem?_toArray]
  rw [List.getElem?_append_left (by simp; omega), List.getElem?_map, List.getD_eq_getElem?_getD, List.getElem?_eq_getElem (by omega)]; rfl
theorem memV_byt {m : Mem} (h : m.wf) (a : Nat) (ha : a < 128) : (memV m)[128 + a]? = some (.int .u8 ((m.b a).toNat : Int)) := by
  obtain ⟨h1, h2⟩ := h
  simp only [memV, Mem.b, List.getElem?_toArray]
  rw [List.getElem?_append_right (by simp; omega), List.getElem?_map, List.getD_eq_getElem?_getD, List.length_map, h1, show 128 + a - 128 = a by omega, List.getElem?_eq_getElem (by omega)]; rfl
theorem memV_setCov {m : Mem} (h : m.wf) (a : Nat) (ha : a < 128) (x : Bool) : (memV m).setIfInBounds a (.bool x) = memV ⟨m.cov.set a x, m.byt⟩ := by
  obtain ⟨h1, h2⟩ := h
  simp only [memV, List.setIfInBounds_toArray]
  rw [List.set_append_left _ _ (by simp; omega), List.map_set]
theorem memV_setByt {m : Mem} (h : m.wf) (a : Nat) (x : UInt8) : (memV m).setIfInBounds (128 + a) (.int .u8 (x.toNat : Int)) = memV ⟨m.cov, m.byt.set a x⟩ := by
  obtain ⟨h1, h2⟩ := h
  simp only [memV, List.setIfInBounds_toArray]
  rw [List.set_append_right _ _ (by simp; omega), List.map_set, List.length_map, h1, show 128 + a - 128 = a by omega]

structure MemAt (w : World) (b : Nat) (m : Mem) : Prop where
  hb : w.heap[b]? = some (.cells (memV m) 86 (0, 0))
  wf : m.wf

theorem MemAt.cov {w : World} {b : Nat} {m : Mem} (h : MemAt w b m) (a : Nat) (ha : a < 128) : w.cell? ⟨b, a, none⟩ = some (.bool (m.c a)) := by
  rw [cell_of_heap h.hb]; exact memV_cov h.wf a ha
theorem MemAt.byt {w : World} {b : Nat} {m : Mem} (h : MemAt w b m) (a : Nat) (ha : a < 128) : w.cell? ⟨b, 128 + a, none⟩ = some (.int .u8 ((m.b a).toNat : Int)) := by
  rw [cell_of_heap h.hb]; exact memV_byt h.wf a ha
theorem MemAt.free {w : World} {b : Nat} {m : Mem} (h : MemAt w b m) (o : Nat) : w.frozen? ⟨b, o, none⟩ = false := free_of_heap h.hb
theorem MemAt.setCov {w : World} {b : Nat} {m : Mem} (h : MemAt w b m) (a : Nat) (ha : a < 128) (x : Bool) : MemAt (w.setCell ⟨b, a, none⟩ (.bool x)) b ⟨m.cov.set a x, m.byt⟩ :=
  ⟨by rw [heap_setCell_at _ _ _ _ _ _ _ h.hb, memV_setCov h.wf a ha], by obtain ⟨h1, h2⟩ := h.wf; exact ⟨by simp [h1], h2⟩⟩
theorem MemAt.setByt {w : World} {b : Nat} {m : Mem} (h : MemAt w b m) (a : Nat) (x : UInt8) : MemAt (w.setCell ⟨b, 128 + a, none⟩ (.int .u8 (x.toNat : Int))) b ⟨m.cov, m.byt.set a x⟩ :=
  ⟨by rw [heap_setCell_at _ _ _ _ _ _ _ h.hb, memV_setByt h.wf a], by obtain ⟨h1, h2⟩ := h.wf; exact ⟨h1, by simp [h2]⟩⟩
theorem MemAt.lt {w : World} {b : Nat} {m : Mem} (h : MemAt w b m) : b < w.heap.size := (Array.getElem?_eq_some_iff.1 h.hb).1
theorem MemAt.kept {w w' : World} {b : Nat} {m : Mem} (h : MemAt w b m) (hb : Below w.heap.size w w') : MemAt w' b m := ⟨by rw [hb.block b h.lt]; exact h.hb, h.wf⟩

set_option maxRecDepth 100000 in
set_option maxHeartbeats 1000000 in
theorem covers_any (w : World) (b : Nat) (m : Mem) (a : Int) (h : MemAt w b m) :
    Calls Try.prog 58 #[.pointer (some ⟨b, 0, none⟩), .int .i64 a] w fun e w' => e = .returned (.bool (decide (0 ≤ a) && decide (a < 128) && m.c a.toNat)) ∧ w' = w := by
  by_cases h1 : a < 0
  · rw [decide_eq_false (show ¬ 0 ≤ a by omega)]
    go_enter Try.func58, Try.ntmps58
    go_wp2
    go_ret
    exact ⟨rfl, rfl⟩
  by_cases h2 : 128 ≤ a
  · rw [decide_eq_false (show ¬ a < 128 by omega)]
    go_enter Try.func58, Try.ntmps58
    go_wp2
    go_ret
    exact ⟨by simp, rfl⟩
  · obtain ⟨k, rfl⟩ : ∃ k : Nat, a = k := ⟨a.toNat, by omega⟩
    rw [decide_eq_true (show (0 : Int) ≤ k by omega), decide_eq_true (show (k : Int) < 128 by omega)]
    have c1 := h.cov k (by omega)
    have h3 : (k : Int) < 128 := by omega
    go_enter Try.func58, Try.ntmps58
    go_wp2
    go_ret
    exact ⟨by simp, rfl⟩
end Go.Proofs.Ytcokahccbjdeaaa
