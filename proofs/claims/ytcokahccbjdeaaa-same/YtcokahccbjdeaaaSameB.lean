import Derived.Test.YtcokahccbjdeaaaSameA
import Derived.Test.YtcokahccbjdeaaaTurnB
import Derived.Laws.Strings
namespace Go.Proofs.Ytcokahccbjdeaaa
open Go.RowKit

set_option maxRecDepth 100000 in
set_option maxHeartbeats 2000000 in
theorem otherwise_any (w : World) (d : ByteArray) (hd : d.size ≤ 12) :
    Calls Try.prog 32 #[.string d] w fun e w' => ∃ d' : ByteArray, e = .returned (.string d') ∧ (d'.size ≤ 1 ∨ d'.size ≤ d.size) ∧ d'.data.toList.getD 0 0 ≠ d.data.toList.getD 0 0 ∧ Below w.heap.size w w' := by
  by_cases h0 : d.size = 0
  · have e : d = ⟨#[]⟩ := by
      rw [← mk_list d]
      have : d.data.toList = [] := List.length_eq_zero_iff.1 h0
      rw [this]; rfl
    subst e
    go_enter Try.func32, Try.ntmps32
    go_wp2
    go_ret
    exact ⟨⟨#[1]⟩, rfl, Or.inl (by decide), by decide, Below.refl _ _⟩
  · have hne : ¬ d = ⟨#[]⟩ := by intro e; rw [e] at h0; exact h0 rfl
    have h0' : (0 : Int) < (d.size : Int) := by omega
    have h0n : 0 < d.size := by omega
    obtain ⟨y, hy, hx⟩ := xor_u8 d[0] 0 (by omega) (by omega)
    have hx' : bits .xor .u8 (d[0].toNat : Int) 1 = (y.toNat : Int) := hx
    clear hx
    have hemp : d.toList.isEmpty = false := by
      rw [ByteArray.toList_eq]
      cases hl : d.data.toList with
      | nil => have : d.data.toList.length = d.size := rfl; rw [hl] at this; simp at this; omega
      | cons => rfl
    have h1I : (1 : Int) ≤ (d.size : Int) := by omega
    have hcv : (convert 49 9 (.slice (some ⟨w.heap.size, 0, none⟩) 1 1)).run Try.prog (w.alloc (.cells #[.int .u8 (y.toNat : Int)] 5)).drew = .ok (.string (mk [y])) (w.alloc (.cells #[.int .u8 (y.toNat : Int)] 5)).drew := conv_cells _ _ 1 _ [y] _ (heap_alloc_new w _) rfl
    have hcv2 : (convert 49 9 (.slice (some ⟨w.heap.size, 0, none⟩) 1 1)).run Try.prog (w.drew.alloc (.cells #[.int .u8 (y.toNat : Int)] 5)) = .ok (.string (mk [y])) (w.drew.alloc (.cells #[.int .u8 (y.toNat : Int)] 5)) := hcv
    obtain ⟨q, hq⟩ : ∃ q, q = mk [y] := ⟨_, rfl⟩
    have HQ : Hid (q = mk [y]) := hq
    have hqs : q.size = 1 := by rw [hq, mk_size]; rfl
    rw [← hq] at hcv hcv2
    have hes : (d.extract 1 d.size).size = d.size - 1 := by rw [extract_mk, mk_size, List.length_take, List.length_drop]; have : d.data.toList.length = d.size := rfl; omega
    have A1 := fun wx => run_string_add_sum (P := Try.prog) wx q (d.extract 1 d.size) (by omega)
    clear hq
    go_enter Try.func32, Try.ntmps32
    go_wp2
    go_region
    all_goals go_wp2
    go_ret
    refine ⟨_, rfl, Or.inr ?_, ?_, ((Below.refl _ _).alloc (Nat.le_refl _) _).drew⟩
    · rw [ByteArray.size_append, hqs, hes]; omega
    · rw [ba_getD d 0 h0n, HQ.out, extract_mk, mk_append, mk_data]
      exact hy

theorem cells_newN (w : World) (g : Nat) (hg : g = w.heap.size) (cs : Array Value) (t : TypeId) (news : List Value) (h : cs.toList = news) :
    ∀ (j : Nat) (u : Value), news[j]? = some u → (w.alloc (.cells cs t)).cell? (Addr.add ⟨g, 0, none⟩ j) = some u := by
  subst hg
  exact cells_new1 w cs t news h

theorem take_get (d : ByteArray) (n j : Nat) (h : j < n) : (d.extract 0 n).data.toList.getD j 0 = d.data.toList.getD j 0 := by
  rw [extract_mk, mk_data]
  simp only [List.getD_eq_getElem?_getD, List.drop_zero, Nat.sub_zero]
  rw [List.getElem?_take, if_pos h]
theorem drop_get (d : ByteArray) (n j : Nat) : (d.extract n d.size).data.toList.getD j 0 = d.data.toList.getD (n + j) 0 := by
  have hl : d.data.toList.length = d.size := rfl
  rw [extract_mk, mk_data, List.take_of_length_le (by rw [List.length_drop]; omega)]
  simp only [List.getD_eq_getElem?_getD]
  rw [List.getElem?_drop]
theorem extract_sz (d : ByteArray) (a b : Nat) (h : a ≤ b) (hb : b ≤ d.size) : (d.extract a b).size = b - a := by
  have hl : d.data.toList.length = d.size := rfl
  rw [extract_mk, mk_size, List.length_take, List.length_drop]; omega

theorem drop_cons {P : List Seg} {j : Nat} (h : j < P.length) : P.drop j = P[j] :: P.drop (j + 1) := (List.getElem_cons_drop h).symm
end Go.Proofs.Ytcokahccbjdeaaa
