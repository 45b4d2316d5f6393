import Derived.Test.YtcokahccbjdeaaaChipA
import Derived.Deep.QuietTactic
import Derived.BigQuiet
namespace Go.Proofs.Ytcokahccbjdeaaa
open Go.RowKit

theorem ret_int {k : IntKind} {a b : Int} (h : a = b) : Ending.returned (.int k a) = .returned (.int k b) := by rw [h]
theorem ret_str {a b : ByteArray} (h : a = b) : Ending.returned (.string a) = .returned (.string b) := by rw [h]
theorem ba_getD (s : ByteArray) (k : Nat) (h : k < s.size) : s.data.toList.getD k 0 = s[k] := by
  have : k < s.data.toList.length := by simpa using h
  rw [List.getD_eq_getElem?_getD, List.getElem?_eq_getElem this]; rfl

def ChipS.done (c : ChipS) (i : Nat) (cut : Bool) : UInt8 :=
  if cut = false then 255 else if c.torn.size = 0 then 0 else c.torn.data.toList.getD (i % c.torn.size) 0

set_option maxHeartbeats 1000000 in
theorem done_any (w : World) (b g : Nat) (c : ChipS) (i : Nat) (cut : Bool) (hi : i < 4611686018427387904) (h : ChipAt w b g c) :
    Calls Try.prog 55 #[.pointer (some ⟨b, 0, none⟩), .int .i64 i, .bool cut] w fun e w' => e = .returned (.int .u8 (c.done i cut).toNat) ∧ ∃ n, w' = w.drewN n := by
  obtain ⟨l, ar, lf, tn, dd, op⟩ := c
  obtain ⟨hb, hg, hl, h0, h2, h3, h4⟩ := h
  simp only [chipV] at *
  have c3 : w.cell? ⟨b, 3, none⟩ = some (.string tn) := by rw [cell_of_heap hb]; rfl
  clear hb hg hl h0 h2 h3
  cases cut
  · go_enter Try.func55, Try.ntmps55
    go_wp2
    go_ret
    exact ⟨rfl, 0, rfl⟩
  · by_cases ht : tn.size = 0
    · have ht' : (tn.size : Int) = 0 := by omega
      go_enter Try.func55, Try.ntmps55
      go_wp2
      go_ret
      exact ⟨by simp [ChipS.done, ht], 0, rfl⟩
    · have ht' : ¬ (tn.size : Int) = 0 := by omega
      have hm1 : (i : Int) % tn.size < tn.size := Int.emod_lt_of_pos _ (by omega)
      have hm0 : 0 ≤ (i : Int) % tn.size := Int.emod_nonneg _ (by omega)
      have hm : i % tn.size < tn.size := Nat.mod_lt _ (by omega)
      have H : Hid ((ChipS.mk l ar lf tn dd op).done i true = tn[i % tn.size]) := by
        unfold ChipS.done Hid; rw [if_neg (by simp), if_neg ht]; exact ba_getD _ _ hm
      go_enter Try.func55, Try.ntmps55
      go_wp2
      go_quiet (fail)
      go_wp2
      go_ret
      exact ⟨ret_int (by rw [H.out]), nq, rfl⟩

def progN (f : Nat → UInt8) (o : Nat) (d : ByteArray) : Nat → List UInt8 → List UInt8
  | 0, l => l
  | k + 1, l => (progN f o d k l).set (o + k) ((progN f o d k l).getD (o + k) 0 &&& (d.data.toList.getD k 0 ||| ~~~ f k))

def ChipS.program (c : ChipS) (at_ : Int) (d : ByteArray) : ChipS :=
  if d.size < 1 ∨ 8 < d.size ∨ at_ < 0 ∨ 1024 ≤ at_ ∨ 256 < at_ % 256 + d.size then c
  else if c.begins.2.1 then { c.begins.1 with cells := progN (fun k => c.begins.1.done k c.begins.2.2) at_.toNat d d.size c.cells }
  else c.begins.1

theorem progN_length (f : Nat → UInt8) (o : Nat) (d : ByteArray) (k : Nat) (l : List UInt8) : (progN f o d k l).length = l.length := by
  induction k with
  | zero => rfl
  | succ k ih => simp [progN, ih]


theorem ChipAt.begun {w w' : World} {b g : Nat} {c : ChipS} (h : ChipAt w b g c) (hb' : w'.heap[b]? = some (.cells (chipV g c.begins.1) 71 (0, 0))) (ho : Only (· = b) w w') :
    ChipAt w' b g c.begins.1 := by
  have hne := h.ne
  have hlt : g < w.heap.size := by
    have := h.hg
    exact (Array.getElem?_eq_some_iff.1 this).1
  have hg' : w'.heap[g]? = some (.cells (bytesV c.cells) 5 (0, 0)) := by rw [ho.block g hlt (fun e => hne e.symm)]; exact h.hg
  have e1 : c.begins.1.cells = c.cells := by unfold ChipS.begins; (repeat' split) <;> rfl
  have e2 : c.begins.1.torn = c.torn := by unfold ChipS.begins; (repeat' split) <;> rfl
  have e3 : 0 ≤ c.begins.1.ops := by have := h.ops0; unfold ChipS.begins; (repeat' split) <;> simp <;> omega
  have e4 : c.begins.1.left < 9223372036854775808 ∧ -9223372036854775808 ≤ c.begins.1.left := by have := h.left0; have := h.left1; unfold ChipS.begins; (repeat' split) <;> simp <;> omega
  exact ⟨hb', by rw [e1]; exact hg', by rw [e1]; exact h.len, e3, e4.1, e4.2, by rw [e2]; exact h.tn⟩

theorem bytesV_get (l : List UInt8) (k : Nat) (h : k < l.length) : (bytesV l)[k]? = some (.int .u8 ((l.getD k 0).toNat : Int)) := by
  simp [bytesV, List.getD_eq_getElem?_getD, h]
theorem bytesV_set (l : List UInt8) (k : Nat) (x : UInt8) : (bytesV l).setIfInBounds k (.int .u8 (x.toNat : Int)) = bytesV (l.set k x) := by
  simp [bytesV]

theorem ChipAt.drewN {w : World} {b g : Nat} {c : ChipS} (h : ChipAt w b g c) (n : Nat) : ChipAt (w.drewN n) b g c := ⟨h.hb, h.hg, h.len, h.ops0, h.left1, h.left0, h.tn⟩
theorem ChipAt.drew {w : World} {b g : Nat} {c : ChipS} (h : ChipAt w b g c) : ChipAt w.drew b g c := ⟨h.hb, h.hg, h.len, h.ops0, h.left1, h.left0, h.tn⟩
theorem ChipAt.set {w : World} {b g : Nat} {c : ChipS} (h : ChipAt w b g c) (k : Nat) (x : UInt8) : ChipAt (w.setCell ⟨g, k, none⟩ (.int .u8 (x.toNat : Int))) b g { c with cells := c.cells.set k x } := by
  refine ⟨by rw [heap_setCell_ne _ _ _ _ _ h.ne]; exact h.hb, ?_, by simp [h.len], h.ops0, h.left1, h.left0, h.tn⟩
  rw [heap_setCell_at _ _ _ _ _ _ _ h.hg, bytesV_set]

theorem and_or_not (x y m : UInt8) : bits .and .u8 (x.toNat : Int) (bits .or .u8 (y.toNat : Int) (bits .xor .u8 (if IntKind.u8.signed = true then -1 else IntKind.u8.max) (m.toNat : Int))) = ((x &&& (y ||| ~~~ m)).toNat : Int) := by
  have hm : m.toNat < 256 := m.toNat_lt
  have e0 : (if IntKind.u8.signed = true then -1 else IntKind.u8.max) = ((255 : Nat) : Int) := rfl
  have e : bits .xor .u8 (if IntKind.u8.signed = true then -1 else IntKind.u8.max) (m.toNat : Int) = (((~~~ m).toNat : Nat) : Int) := by
    rw [e0, u8_xor_nat _ _ (by decide) hm]
    congr 1
  rw [e, u8_or_nat _ _ y.toNat_lt (UInt8.toNat_lt _)]
  have hlt : y.toNat ||| (~~~ m).toNat < 256 := by
    have := (y ||| ~~~ m).toNat_lt
    rwa [UInt8.toNat_or] at this
  rw [u8_and_nat _ _ x.toNat_lt hlt, UInt8.toNat_and, UInt8.toNat_or]
theorem getD_get (l : List UInt8) (k : Nat) (h : k < l.length) : l.getD k 0 = l[k] := by
  rw [List.getD_eq_getElem?_getD, List.getElem?_eq_getElem h]; rfl

set_option maxRecDepth 100000 in
set_option maxHeartbeats 2000000 in
theorem program_any (w : World) (b g : Nat) (c : ChipS) (o : Nat) (d : ByteArray) (ho : o < 1024) (hd1 : 1 ≤ d.size) (hd8 : d.size ≤ 8) (hod : o % 256 + d.size ≤ 256) (h : ChipAt w b g c) (hops : c.ops < 4611686018427387904) :
    Calls Try.prog 39 #[.pointer (some ⟨b, 0, none⟩), .int .i64 o, .string d] w fun e w' => e = .returned (.tuple #[]) ∧ ChipAt w' b g (c.program o d) ∧ Only (fun k => k = b ∨ k = g) w w' ∧ w'.heap.size = w.heap.size := by
  have c0 : w.cell? ⟨b, 0, none⟩ = some (.slice (some ⟨g, 0, none⟩) 1024 1024) := by rw [cell_of_heap h.hb]; rfl
  have hod' : (o : Int) % 256 + d.size ≤ 256 := by omega
  have hcl : c.begins.1.cells = c.cells := by unfold ChipS.begins; (repeat' split) <;> rfl
  have hP : Hid (c.program o d = if c.begins.2.1 then { c.begins.1 with cells := progN (fun k => c.begins.1.done k c.begins.2.2) o d d.size c.cells } else c.begins.1) := by
    unfold ChipS.program Hid; rw [if_neg (by omega)]; simp
  have HC : Hid (c.begins.1.cells = c.cells) := hcl
  clear hcl
  cases hgo : c.begins.2.1
  · go_enter Try.func39, Try.ntmps39
    go_wp2_with (go_at_call 54; refine (begins_any w b g c h hops).mono ?_; rintro e w' ⟨rfl, hb', honly, hsz⟩; simp only [hgo])
    have hcb := h.begun hb' honly
    refine bodyPost_ret (results_none rfl _ _ _) rfl ?_
    refine ⟨rfl, ?_, honly.mono (fun k hk => Or.inl hk), hsz⟩
    rw [hP.out, hgo]; exact hcb
  · go_enter Try.func39, Try.ntmps39
    go_wp2_with (go_at_call 54; refine (begins_any w b g c h hops).mono ?_; rintro e w' ⟨rfl, hb', honly, hsz⟩; simp only [hgo])
    have hcb := h.begun hb' honly
    clear hb' c0
    go_loopw [9, 10] (fun i m wr => ∃ k : Nat, k ≤ d.size ∧ i = .int .i64 k ∧ ChipAt wr b g { c.begins.1 with cells := progN (fun k => c.begins.1.done k c.begins.2.2) o d k c.cells } ∧ Only (fun k => k = b ∨ k = g) w wr ∧ wr.heap.size = w.heap.size) (fun i m _ => d.size - (intOf i).toNat)
    case atStart =>
      refine ⟨0, by omega, rfl, ?_, honly.mono (fun k hk => Or.inl hk), hsz⟩
      have := hcb
      rw [show ({ c.begins.1 with cells := progN (fun k => c.begins.1.done k c.begins.2.2) o d 0 c.cells } : ChipS) = c.begins.1 from by show ({ c.begins.1 with cells := c.cells } : ChipS) = _; rw [← HC.out]]
      exact hcb
    case round =>
      obtain ⟨k, hk, rfl, hc, hon, hs⟩ := hrel
      have HL : Hid (d.size ≤ 8) := hd8
      by_cases hlt : k < d.size
      · have hlen := hc.len
        simp only [progN_length] at hlen
        obtain ⟨l, hl⟩ : ∃ l, l = progN (fun k => c.begins.1.done k c.begins.2.2) o d k c.cells := ⟨_, rfl⟩
        have HLS : Hid (progN (fun k => c.begins.1.done k c.begins.2.2) o d (k + 1) c.cells = l.set (o + k) (l.getD (o + k) 0 &&& (d.data.toList.getD k 0 ||| ~~~ (c.begins.1.done k c.begins.2.2)))) := by rw [hl]; rfl
        rw [← hl] at hc
        have hll : l.length = 1024 := by rw [hl, progN_length]; exact hlen
        clear hl
        have hok : o + k < 1024 := by omega
        obtain ⟨cx, hcx⟩ : ∃ cx, cx = ({ c.begins.1 with cells := l } : ChipS) := ⟨_, rfl⟩
        have hdn : Hid (cx.done k c.begins.2.2 = c.begins.1.done k c.begins.2.2) := by rw [hcx]; rfl
        have hcl : Hid (cx.cells = l) := by rw [hcx]; rfl
        have HCX : Hid (cx = ({ c.begins.1 with cells := l } : ChipS)) := hcx
        rw [← hcx] at hc
        clear hcx
        have hdk : Hid (d.data.toList.getD k 0 = d[k]) := ba_getD d k hlt
        go_wp2_with (go_at_call 55; refine (done_any wr b g cx k c.begins.2.2 (by omega) hc).mono ?_; rintro e w2 ⟨rfl, n2, rfl⟩)
        have hcw := hc.drewN n2
        have honw := hon.drewN n2
        have hsw : (wr.drewN n2).heap.size = w.heap.size := hs
        generalize wr.drewN n2 = wx at *
        have d0 : wx.cell? ⟨b, 0, none⟩ = some (.slice (some ⟨g, 0, none⟩) 1024 1024) := by rw [cell_of_heap hcw.hb]; rfl
        have dk : wx.cell? ⟨g, o + k, none⟩ = some (.int .u8 ((l.getD (o + k) 0).toNat : Int)) := by
          rw [cell_of_heap hcw.hg, hcl.out]; exact bytesV_get l _ (by omega)
        have df : ∀ o, wx.frozen? ⟨g, o, none⟩ = false := fun o => free_of_heap hcw.hg
        clear hc hon hs hlen
        go_region
        all_goals go_wp2
        go_roundw
        case rel =>
          have hx := getD_get l (o + k) (by omega)
          rw [and_or_not, hdn.out, ← hx, ← hdk.out]
          have hset := (hcw.set (o + k) (l.getD (o + k) 0 &&& (d.data.toList.getD k 0 ||| ~~~ (c.begins.1.done k c.begins.2.2)))).drew
          rw [hcl.out, ← HLS.out, HCX.out] at hset
          exact ⟨k + 1, by omega, by go_num, hset, (honw.setCell (Or.inr rfl) _).drew, by simpa using hsw⟩
        case measure => simp [intOf]; omega
      · have hkd : k = d.size := by omega
        subst hkd
        go_wp2
        refine bodyPost_end (results_none rfl _ _ _) rfl ?_
        refine ⟨rfl, ?_, hon, hs⟩
        rw [hP.out, hgo]; exact hc
end Go.Proofs.Ytcokahccbjdeaaa
