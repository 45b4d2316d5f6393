import Derived.Test.YtcokahccbjdeaaaImgA
namespace Go.Proofs.Ytcokahccbjdeaaa
open Go.RowKit

theorem Only.cell {S : Nat → Prop} {w w' : World} (h : Only S w w') {p : Addr} (hp : p.block < w.heap.size) (hs : ¬ S p.block) : w'.cell? p = w.cell? p := World.cell?_of_block (w := w) (h.block p.block hp hs)
theorem Only.trans_below {S : Nat → Prop} {a b c : World} (h : Only S a b) (k : Below b.heap.size b c) : Only S a c := h.trans (Only.of_below S k)
theorem MemAt.keptO {w w' : World} {b : Nat} {m : Mem} {S : Nat → Prop} (h : MemAt w b m) (ho : Only S w w') (hs : ¬ S b) : MemAt w' b m := ⟨by rw [ho.block b h.lt hs]; exact h.hb, h.wf⟩
theorem MemAt.drew {w : World} {b : Nat} {m : Mem} (h : MemAt w b m) : MemAt w.drew b m := ⟨h.hb, h.wf⟩

theorem freeN_false {m : Mem} {a : Nat} {d : ByteArray} {k n : Nat} (h : (m.putN a d k).c (a + k) = true) (hk : k < n) : m.freeN a d n = false := by
  induction n with
  | zero => omega
  | succ n ih =>
    by_cases hn : k = n
    · subst hn; simp [Mem.freeN, h]
    · simp [Mem.freeN, ih (by omega)]

theorem fits_bel (w : World) (s : Seg) (h : s.ok) : Calls Try.prog 62 #[s.v] w fun e w' => e = .returned (.bool s.fits) ∧ Below w.heap.size w w' := by
  refine (fits_any w s h).mono ?_
  rintro e w' ⟨rfl, rfl⟩
  exact ⟨rfl, (Below.refl _ _).alloc (Nat.le_refl _) _⟩

set_option maxRecDepth 100000 in
set_option maxHeartbeats 4000000 in
theorem add_fit (w : World) (b : Nat) (m : Mem) (a z : Nat) (d : ByteArray) (h : MemAt w b m) (hz : 1 ≤ z) (hza : a + z ≤ 128) (hdz : d.size ≤ z) :
    Calls Try.prog 63 #[.pointer (some ⟨b, 0, none⟩), .agg #[.int .i64 a, .int .i64 z, .string d]] w fun e w' => e = .returned (.bool (m.freeN a d z)) ∧
      (m.freeN a d z = true → MemAt w' b (m.putN a d z)) ∧ Only (· = b) w w' := by
  have hf : Seg.fits ⟨a, z, d⟩ = true := by rw [Seg.fits_iff]; dsimp only; omega
  have hsok : Seg.ok ⟨a, z, d⟩ := ⟨by dsimp only; omega, by dsimp only; omega, by dsimp only; omega, by dsimp only; omega, by dsimp only; omega⟩
  have HF : Hid (Seg.fits ⟨a, z, d⟩ = true) := hf
  clear hf
  have hb := h.lt
  go_enter Try.func63, Try.ntmps63
  go_wp2_with (go_at_call 62; refine (fits_bel _ ⟨a, z, d⟩ hsok).mono ?_; rintro e w2 ⟨rfl, hw2⟩; rw [HF.out])
  have ho : Only (· = b) w w2 := ((Only.refl _ _).alloc _).trans_below hw2
  have hB : Hid (w2.heap[w.heap.size]? = some (.cells #[.int .i64 a, .int .i64 z, .string d] 43 (0, 0))) := by unfold Hid; rw [hw2.block _ (by simp), heap_alloc_new]
  have hm2 : MemAt w2 b (m.putN a d 0) := h.kept (((Below.refl _ _).alloc (Nat.le_refl _) _).trans (hw2.mono (by simp)))
  have hsz2 : w.heap.size < w2.heap.size := by have := hw2.size; simp at this; omega
  clear hw2
  go_loopw [4, 5] (fun r i wr => ∃ k : Nat, k ≤ z ∧ i = .int .i64 k ∧ MemAt wr b (m.putN a d k) ∧ Hid (m.freeN a d k = true) ∧ Only (· = b) w2 wr) (fun _ i _ => z - (intOf i).toNat)
  case atStart => exact ⟨0, by omega, rfl, hm2, rfl, Only.refl _ _⟩
  case round =>
    obtain ⟨k, hk, rfl, hm, hfr, hon⟩ := hrel
    obtain ⟨wo, hwo⟩ : ∃ wo : World, wo = wr := ⟨_, rfl⟩
    have hBr : wr.heap[w.heap.size]? = some (.cells #[.int .i64 a, .int .i64 z, .string d] 43 (0, 0)) := by rw [hon.block _ hsz2 (by omega)]; exact hB.out
    have q0 : wr.cell? ⟨w.heap.size, 0, none⟩ = some (.int .i64 a) := by rw [cell_of_heap hBr]; rfl
    have q1 : wr.cell? ⟨w.heap.size, 1, none⟩ = some (.int .i64 z) := by rw [cell_of_heap hBr]; rfl
    have q2 : wr.cell? ⟨w.heap.size, 2, none⟩ = some (.string d) := by rw [cell_of_heap hBr]; rfl
    clear hBr hwo
    have hne : ¬ w.heap.size = b := by omega
    by_cases hlt : k < z
    · have hcv := hm.cov (a + k) (by omega)
      have hfz := hm.free
      cases hck : (m.putN a d k).c (a + k)
      · rw [hck] at hcv
        have hm1 := hm.setCov (a + k) (by omega) true
        have hfr1 : Hid (m.freeN a d (k + 1) = true) := by unfold Hid; simp [Mem.freeN, hfr.out, hck]
        by_cases hkd : k < d.size
        · have hby : wr.cell? ⟨b, 128 + (a + k), none⟩ = some (.int .u8 (((m.putN a d k).b (a + k)).toNat : Int)) := hm.byt (a + k) (by omega)
          go_wp2
          have hm2' : MemAt (wr.setCell ⟨b, a + k, none⟩ (.bool true)) b ⟨(m.putN a d k).cov.set (a + k) true, (m.putN a d k).byt⟩ := hm1
          have hby2 : (wr.setCell ⟨b, a + k, none⟩ (.bool true)).cell? ⟨b, 128 + (a + k), none⟩ = some (.int .u8 (((m.putN a d k).b (a + k)).toNat : Int)) := hm1.byt (a + k) (by omega)
          have hfz2 := hm1.free
          have q22 : (wr.setCell ⟨b, a + k, none⟩ (.bool true)).cell? ⟨w.heap.size, 2, none⟩ = some (.string d) := by
            rw [World.cell?_of_block (w := wr) (Below.heap_setCell _ _ _ _ hne)]; exact q2
          have hon2 : Only (· = b) w2 (wr.setCell ⟨b, a + k, none⟩ (.bool true)) := hon.setCell (by exact rfl) _
          generalize wr.setCell ⟨b, a + k, none⟩ (.bool true) = wx at *
          clear hm hm1 hfz q0 q1 q2 hby hcv hon
          go_region
          all_goals go_wp2
          go_roundw
          case rel =>
            refine ⟨k + 1, by omega, by go_num, ?_, hfr1, (hon2.setCell (by exact rfl) _).drew⟩
            have := (hm2'.setByt (a + k) (d.data.toList.getD k 0)).drew
            rw [ba_getD d k hkd] at this
            simp only [Mem.putN, Mem.put, if_pos hkd]
            rw [ba_getD d k hkd]
            exact this
          case measure => simp [intOf]; omega
        · go_wp2
          go_roundw
          case rel =>
            refine ⟨k + 1, by omega, by go_num, ?_, hfr1, hon.setCell (by exact rfl) _⟩
            simp only [Mem.putN, Mem.put, if_neg hkd]
            exact hm1
          case measure => simp [intOf]; omega
      · rw [hck] at hcv
        have hfr2 := freeN_false hck hlt
        have HFR : Hid (m.freeN a d z = false) := hfr2
        clear hfr2
        go_wp2
        go_ret
        exact ⟨by rw [HFR.out]; rfl, by rw [HFR.out]; simp, ho.trans hon⟩
    · have hkz : k = z := by omega
      subst hkz
      go_wp2
      go_ret
      exact ⟨by rw [hfr.out]; rfl, fun _ => hm, ho.trans hon⟩

set_option maxRecDepth 100000 in
set_option maxHeartbeats 1000000 in
theorem add_unfit (w : World) (b : Nat) (s : Seg) (hs : s.ok) (hf : s.fits = false) :
    Calls Try.prog 63 #[.pointer (some ⟨b, 0, none⟩), s.v] w fun e w' => e = .returned (.bool false) ∧ Only (· = b) w w' := by
  obtain ⟨a, z, d⟩ := s
  simp only [Seg.v]
  go_enter Try.func63, Try.ntmps63
  go_wp2_with (go_at_call 62; refine (fits_bel _ ⟨a, z, d⟩ hs).mono ?_; rintro e w2 ⟨rfl, hw2⟩; rw [hf])
  go_ret
  exact ⟨rfl, ((Only.refl _ _).alloc _).trans_below hw2⟩

theorem add_any (w : World) (b : Nat) (m : Mem) (s : Seg) (h : MemAt w b m) (hs : s.ok) :
    Calls Try.prog 63 #[.pointer (some ⟨b, 0, none⟩), s.v] w fun e w' => e = .returned (.bool (s.fits && m.freeS s)) ∧
      ((s.fits && m.freeS s) = true → MemAt w' b (m.putS s)) ∧ Only (· = b) w w' := by
  cases hf : s.fits
  · refine (add_unfit w b s hs hf).mono ?_
    rintro e w' ⟨rfl, ho⟩
    exact ⟨rfl, by simp, ho⟩
  · obtain ⟨a, z, d⟩ := s
    obtain ⟨f1, f2, f3, f4⟩ := (Seg.fits_iff _).1 hf
    dsimp only at f1 f2 f3 f4
    obtain ⟨a, rfl⟩ : ∃ k : Nat, a = k := ⟨a.toNat, by omega⟩
    obtain ⟨z, rfl⟩ : ∃ k : Nat, z = k := ⟨z.toNat, by omega⟩
    exact add_fit w b m a z d h (by omega) (by omega) (by omega)
end Go.Proofs.Ytcokahccbjdeaaa
