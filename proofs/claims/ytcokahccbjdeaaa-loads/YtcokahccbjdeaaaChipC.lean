import Derived.Test.YtcokahccbjdeaaaChipB
namespace Go.Proofs.Ytcokahccbjdeaaa
open Go.RowKit

set_option maxRecDepth 100000 in
set_option maxHeartbeats 2000000 in
theorem program_none (w : World) (b g : Nat) (c : ChipS) (o : Int) (d : ByteArray) (ho1 : o < 9223372036854775808) (ho0 : -9223372036854775808 ≤ o) (hd0 : d.size < 4611686018427387904)
    (hbad : d.size < 1 ∨ 8 < d.size ∨ o < 0 ∨ 1024 ≤ o ∨ 256 < o % 256 + d.size) (h : ChipAt w b g c) :
    Calls Try.prog 39 #[.pointer (some ⟨b, 0, none⟩), .int .i64 o, .string d] w fun e w' => e = .returned (.tuple #[]) ∧ w' = w := by
  have c0 : w.cell? ⟨b, 0, none⟩ = some (.slice (some ⟨g, 0, none⟩) 1024 1024) := by rw [cell_of_heap h.hb]; rfl
  clear h
  by_cases h1 : d.size < 1
  · have h1' : (d.size : Int) < 1 := by omega
    clear hbad
    go_enter Try.func39, Try.ntmps39
    go_wp2
    refine bodyPost_ret (results_none rfl _ _ _) rfl ?_
    exact ⟨rfl, rfl⟩
  by_cases h2 : 8 < d.size
  · have h2' : (8 : Int) < (d.size : Int) := by omega
    clear hbad
    go_enter Try.func39, Try.ntmps39
    go_wp2
    refine bodyPost_ret (results_none rfl _ _ _) rfl ?_
    exact ⟨rfl, rfl⟩
  by_cases h3 : o < 0
  · clear hbad
    have h1' : ¬ (d.size : Int) < 1 := by omega
    have h2' : ¬ (8 : Int) < (d.size : Int) := by omega
    go_enter Try.func39, Try.ntmps39
    go_wp2
    refine bodyPost_ret (results_none rfl _ _ _) rfl ?_
    exact ⟨rfl, rfl⟩
  by_cases h4 : 1024 ≤ o
  · clear hbad
    have h1' : ¬ (d.size : Int) < 1 := by omega
    have h2' : ¬ (8 : Int) < (d.size : Int) := by omega
    go_enter Try.func39, Try.ntmps39
    go_wp2
    refine bodyPost_ret (results_none rfl _ _ _) rfl ?_
    exact ⟨rfl, rfl⟩
  · have h5 : 256 < o % 256 + d.size := by omega
    clear hbad
    have h1' : ¬ (d.size : Int) < 1 := by omega
    have h2' : ¬ (8 : Int) < (d.size : Int) := by omega
    go_enter Try.func39, Try.ntmps39
    go_wp2
    refine bodyPost_ret (results_none rfl _ _ _) rfl ?_
    exact ⟨rfl, rfl⟩

theorem program_all (w : World) (b g : Nat) (c : ChipS) (o : Int) (d : ByteArray) (ho1 : o < 9223372036854775808) (ho0 : -9223372036854775808 ≤ o) (hd0 : d.size < 4611686018427387904) (h : ChipAt w b g c) (hops : c.ops < 4611686018427387904) :
    Calls Try.prog 39 #[.pointer (some ⟨b, 0, none⟩), .int .i64 o, .string d] w fun e w' => e = .returned (.tuple #[]) ∧ ChipAt w' b g (c.program o d) ∧ Only (fun k => k = b ∨ k = g) w w' ∧ w'.heap.size = w.heap.size := by
  by_cases hbad : d.size < 1 ∨ 8 < d.size ∨ o < 0 ∨ 1024 ≤ o ∨ 256 < o % 256 + d.size
  · refine (program_none w b g c o d ho1 ho0 hd0 hbad h).mono ?_
    rintro e w' ⟨rfl, rfl⟩
    exact ⟨rfl, by unfold ChipS.program; rw [if_pos hbad]; exact h, Only.refl _ _, rfl⟩
  · obtain ⟨k, rfl⟩ : ∃ k : Nat, o = k := ⟨o.toNat, by omega⟩
    exact program_any w b g c k d (by omega) (by omega) (by omega) (by omega) h hops

def eraseN (f : Nat → UInt8) (o : Nat) : Nat → List UInt8 → List UInt8
  | 0, l => l
  | k + 1, l => (eraseN f o k l).set (o + k) ((eraseN f o k l).getD (o + k) 0 ||| f k)
theorem eraseN_length (f : Nat → UInt8) (o : Nat) (k : Nat) (l : List UInt8) : (eraseN f o k l).length = l.length := by
  induction k with
  | zero => rfl
  | succ k ih => simp [eraseN, ih]
def ChipS.erase (c : ChipS) (s : Int) : ChipS :=
  if s < 0 ∨ 4 ≤ s then c
  else if c.begins.2.1 then { c.begins.1 with cells := eraseN (fun k => c.begins.1.done k c.begins.2.2) (s.toNat * 256) 256 c.cells }
  else c.begins.1
theorem or_u8 (x m : UInt8) : bits .or .u8 (x.toNat : Int) (m.toNat : Int) = ((x ||| m).toNat : Int) := by
  rw [u8_or_nat _ _ x.toNat_lt m.toNat_lt, UInt8.toNat_or]

set_option maxRecDepth 100000 in
set_option maxHeartbeats 2000000 in
theorem erase_any (w : World) (b g : Nat) (c : ChipS) (s : Nat) (hs4 : s < 4) (h : ChipAt w b g c) (hops : c.ops < 4611686018427387904) :
    Calls Try.prog 40 #[.pointer (some ⟨b, 0, none⟩), .int .i64 s] w fun e w' => e = .returned (.tuple #[]) ∧ ChipAt w' b g (c.erase s) ∧ Only (fun k => k = b ∨ k = g) w w' ∧ w'.heap.size = w.heap.size := by
  have hs0 : (s : Int) < 4 := by omega
  have hP : Hid (c.erase s = if c.begins.2.1 then { c.begins.1 with cells := eraseN (fun k => c.begins.1.done k c.begins.2.2) (s * 256) 256 c.cells } else c.begins.1) := by
    unfold ChipS.erase Hid; rw [if_neg (by omega)]; simp
  have HC : Hid (c.begins.1.cells = c.cells) := by unfold ChipS.begins Hid; (repeat' split) <;> rfl
  cases hgo : c.begins.2.1
  · go_enter Try.func40, Try.ntmps40
    go_wp2_with (go_at_call 54; refine (begins_any w b g c h hops).mono ?_; rintro e w' ⟨rfl, hb', honly, hsz⟩; simp only [hgo])
    have hcb := h.begun hb' honly
    refine bodyPost_ret (results_none rfl _ _ _) rfl ?_
    refine ⟨rfl, ?_, honly.mono (fun k hk => Or.inl hk), hsz⟩
    rw [hP.out, hgo]; exact hcb
  · go_enter Try.func40, Try.ntmps40
    go_wp2_with (go_at_call 54; refine (begins_any w b g c h hops).mono ?_; rintro e w' ⟨rfl, hb', honly, hsz⟩; simp only [hgo])
    have hcb := h.begun hb' honly
    clear hb'
    go_loopw [6, 7] (fun i m wr => ∃ k : Nat, k ≤ 256 ∧ i = .int .i64 k ∧ ChipAt wr b g { c.begins.1 with cells := eraseN (fun k => c.begins.1.done k c.begins.2.2) (s * 256) k c.cells } ∧ Only (fun k => k = b ∨ k = g) w wr ∧ wr.heap.size = w.heap.size) (fun i m _ => 256 - (intOf i).toNat)
    case atStart =>
      refine ⟨0, by omega, rfl, ?_, honly.mono (fun k hk => Or.inl hk), hsz⟩
      rw [show ({ c.begins.1 with cells := eraseN (fun k => c.begins.1.done k c.begins.2.2) (s * 256) 0 c.cells } : ChipS) = c.begins.1 from by show ({ c.begins.1 with cells := c.cells } : ChipS) = _; rw [← HC.out]]
      exact hcb
    case round =>
      obtain ⟨k, hk, rfl, hc, hon, hs⟩ := hrel
      by_cases hlt : k < 256
      · have hlen := hc.len
        simp only [eraseN_length] at hlen
        obtain ⟨l, hl⟩ : ∃ l, l = eraseN (fun k => c.begins.1.done k c.begins.2.2) (s * 256) k c.cells := ⟨_, rfl⟩
        have HLS : Hid (eraseN (fun k => c.begins.1.done k c.begins.2.2) (s * 256) (k + 1) c.cells = l.set (s * 256 + k) (l.getD (s * 256 + k) 0 ||| (c.begins.1.done k c.begins.2.2))) := by rw [hl]; rfl
        rw [← hl] at hc
        have hll : l.length = 1024 := by rw [hl, eraseN_length]; exact hlen
        clear hl
        have hok : s * 256 + k < 1024 := by omega
        obtain ⟨cx, hcx⟩ : ∃ cx, cx = ({ c.begins.1 with cells := l } : ChipS) := ⟨_, rfl⟩
        have hdn : Hid (cx.done k c.begins.2.2 = c.begins.1.done k c.begins.2.2) := by rw [hcx]; rfl
        have hcl : Hid (cx.cells = l) := by rw [hcx]; rfl
        have HCX : Hid (cx = ({ c.begins.1 with cells := l } : ChipS)) := hcx
        rw [← hcx] at hc
        clear hcx
        go_wp2_with (go_at_call 55; refine (done_any wr b g cx k c.begins.2.2 (by omega) hc).mono ?_; rintro e w2 ⟨rfl, n2, rfl⟩)
        have hcw := hc.drewN n2
        have honw := hon.drewN n2
        have hsw : (wr.drewN n2).heap.size = w.heap.size := hs
        generalize wr.drewN n2 = wx at *
        have d0 : wx.cell? ⟨b, 0, none⟩ = some (.slice (some ⟨g, 0, none⟩) 1024 1024) := by rw [cell_of_heap hcw.hb]; rfl
        have dk : wx.cell? ⟨g, s * 256 + k, none⟩ = some (.int .u8 ((l.getD (s * 256 + k) 0).toNat : Int)) := by
          rw [cell_of_heap hcw.hg, hcl.out]; exact bytesV_get l _ (by omega)
        have df : ∀ o, wx.frozen? ⟨g, o, none⟩ = false := fun o => free_of_heap hcw.hg
        clear hc hon hs hlen
        go_region
        all_goals go_wp2
        go_roundw
        case rel =>
          have hx := getD_get l (s * 256 + k) (by omega)
          rw [or_u8, hdn.out, ← hx]
          have hset := (hcw.set (s * 256 + k) (l.getD (s * 256 + k) 0 ||| (c.begins.1.done k c.begins.2.2))).drew
          rw [hcl.out, ← HLS.out, HCX.out] at hset
          exact ⟨k + 1, by omega, by go_num, hset, (honw.setCell (Or.inr rfl) _).drew, by simpa using hsw⟩
        case measure => simp [intOf]; omega
      · have hkd : k = 256 := by omega
        subst hkd
        go_wp2
        refine bodyPost_end (results_none rfl _ _ _) rfl ?_
        refine ⟨rfl, ?_, hon, hs⟩
        rw [hP.out, hgo]; exact hc

set_option maxRecDepth 100000 in
theorem erase_none (w : World) (b : Nat) (s : Int) (hs : s < 0 ∨ 4 ≤ s) :
    Calls Try.prog 40 #[.pointer (some ⟨b, 0, none⟩), .int .i64 s] w fun e w' => e = .returned (.tuple #[]) ∧ w' = w := by
  by_cases h1 : s < 0
  · clear hs
    go_enter Try.func40, Try.ntmps40
    go_wp2
    refine bodyPost_ret (results_none rfl _ _ _) rfl ?_
    exact ⟨rfl, rfl⟩
  · have h2 : 4 ≤ s := by omega
    clear hs
    go_enter Try.func40, Try.ntmps40
    go_wp2
    refine bodyPost_ret (results_none rfl _ _ _) rfl ?_
    exact ⟨rfl, rfl⟩
theorem erase_all (w : World) (b g : Nat) (c : ChipS) (s : Int) (h : ChipAt w b g c) (hops : c.ops < 4611686018427387904) :
    Calls Try.prog 40 #[.pointer (some ⟨b, 0, none⟩), .int .i64 s] w fun e w' => e = .returned (.tuple #[]) ∧ ChipAt w' b g (c.erase s) ∧ Only (fun k => k = b ∨ k = g) w w' ∧ w'.heap.size = w.heap.size := by
  by_cases hbad : s < 0 ∨ 4 ≤ s
  · refine (erase_none w b s hbad).mono ?_
    rintro e w' ⟨rfl, rfl⟩
    exact ⟨rfl, by unfold ChipS.erase; rw [if_pos hbad]; exact h, Only.refl _ _, rfl⟩
  · obtain ⟨k, rfl⟩ : ∃ k : Nat, s = k := ⟨s.toNat, by omega⟩
    exact erase_any w b g c k (by omega) h hops
end Go.Proofs.Ytcokahccbjdeaaa
