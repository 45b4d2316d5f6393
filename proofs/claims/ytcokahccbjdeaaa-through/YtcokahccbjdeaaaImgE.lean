import Derived.Test.YtcokahccbjdeaaaImgD
namespace Go.Proofs.Ytcokahccbjdeaaa
open Go.RowKit

def segCells (l : List Seg) : List Value := l.flatMap fun s => [.int .i64 s.addr, .int .i64 s.size, .string s.data]
theorem segCells_length (l : List Seg) : (segCells l).length = l.length * 3 := by
  induction l with
  | nil => rfl
  | cons s r ih => simp only [segCells, List.flatMap_cons, List.length_append] at *; rw [ih]; simp; omega
theorem segCells_append (l r : List Seg) : segCells (l ++ r) = segCells l ++ segCells r := by simp [segCells]
theorem segCells_get (l : List Seg) (i : Nat) (h : i < l.length) : (segCells l)[i * 3]? = some (.int .i64 l[i].addr) ∧ (segCells l)[i * 3 + 1]? = some (.int .i64 l[i].size) ∧ (segCells l)[i * 3 + 2]? = some (.string l[i].data) := by
  have e : l = l.take i ++ (l[i] :: l.drop (i + 1)) := by rw [List.getElem_cons_drop, List.take_append_drop]
  have hl : (segCells (l.take i)).length = i * 3 := by rw [segCells_length, List.length_take]; congr 1; omega
  have e2 : segCells l = segCells (l.take i) ++ ([.int .i64 l[i].addr, .int .i64 l[i].size, .string l[i].data] ++ segCells (l.drop (i + 1))) := by
    conv => lhs; rw [e]
    rw [segCells_append]; rfl
  rw [e2]
  refine ⟨?_, ?_, ?_⟩ <;> rw [List.getElem?_append_right (by omega), hl] <;> simp [Nat.add_sub_cancel_left]

/-- from a row of the call's own to segments -/
theorem SegsAt_of_own {w : World} {base n : Nat} {v : Value} {l : List Seg} (h : w.ownsRow base 43 3 v n (segCells l)) :
    n = l.length ∧ ∃ (a : Option Addr) (b cap : Nat), v = .slice a n cap ∧ (l ≠ [] → a = some ⟨b, 0, none⟩) ∧ SegsAt w b 0 l ∧ (l ≠ [] → b < w.heap.size ∧ base ≤ b) ∧ n ≤ cap ∧ cap ≤ maxLen := by
  have hn : n = l.length := by have := h.1; rw [segCells_length] at this; omega
  refine ⟨hn, ?_⟩
  rcases h.2 with ⟨rfl, h0⟩ | ⟨g, cap, cur, rfl, hg, hh, hc1, hc2, hc3, hc4⟩
  · have hl : l = [] := List.length_eq_zero_iff.1 (by omega)
    subst hl
    exact ⟨none, 0, 0, by rw [h0], by simp, fun i hi => by simp at hi, by simp, by omega, by simp [maxLen]⟩
  · refine ⟨some ⟨g, 0, none⟩, g, cap, rfl, fun _ => rfl, ?_, fun _ => ⟨(Array.getElem?_eq_some_iff.1 hh).1, hg⟩, hc1, hc2⟩
    intro i hi
    obtain ⟨g1, g2, g3⟩ := segCells_get l i hi
    rw [← hc4] at g1 g2 g3
    have hl3 : n * 3 = l.length * 3 := by omega
    refine ⟨?_, ?_, ?_⟩
    · rw [cell_of_heap hh, ← Array.getElem?_toList, ← g1, List.getElem?_take, if_pos (by omega), Nat.zero_add]
    · rw [cell_of_heap hh, ← Array.getElem?_toList, ← g2, List.getElem?_take, if_pos (by omega), Nat.zero_add]
    · rw [cell_of_heap hh, ← Array.getElem?_toList, ← g3, List.getElem?_take, if_pos (by omega), Nat.zero_add]

theorem runsTo_succ (m : Mem) (k : Nat) : runsTo m (k + 1) = runsTo m k ++ (if isStart m k then [runOf m k] else []) := by
  unfold runsTo
  rw [List.range_succ, List.filter_append, List.map_append]
  congr 1
  by_cases h : isStart m k <;> simp [h]
theorem runsTo_length (m : Mem) (k : Nat) : (runsTo m k).length ≤ k := by
  unfold runsTo
  rw [List.length_map]
  exact Nat.le_trans (List.length_filter_le _ _) (by simp)

theorem ownsRow_below {w w' : World} {base : Nat} {e : TypeId} {size : Nat} {v : Value} {n : Nat} {xs : List Value} (h : w.ownsRow base e size v n xs) (hb : Below w.heap.size w w') : w'.ownsRow base e size v n xs := by
  refine ⟨h.1, ?_⟩
  rcases h.2 with h2 | ⟨g, cap, cur, hv, hg, hh, r⟩
  · exact Or.inl h2
  · exact Or.inr ⟨g, cap, cur, hv, hg, by rw [hb.block g (Array.getElem?_eq_some_iff.1 hh).1]; exact hh, r⟩
theorem own_lt {w : World} {base : Nat} {e : TypeId} {size : Nat} {v : Value} {n : Nat} {xs : List Value} (h : w.ownsRow base e size v n xs) : ∀ k, v.ownBlock = some k → base ≤ k := fun k hk => (h.lt k hk).1

theorem cells_new (w : World) (o : Obj) (cs : Array Value) (t : TypeId) (news : List Value) (h : cs.toList = news) :
    ∀ (j : Nat) (u : Value), news[j]? = some u → ((w.alloc o).alloc (.cells cs t)).cell? (Addr.add ⟨w.heap.size + 1, 0, none⟩ j) = some u := by
  intro j u hj
  have ha : (⟨w.heap.size + 1, 0, none⟩ : Addr).add j = ⟨w.heap.size + 1, j, none⟩ := by cases j <;> simp [Addr.add]
  rw [ha, cell_of_heap (heap_alloc2_new w o (.cells cs t)), ← hj, ← h, Array.getElem?_toList]

theorem Try.info43 : (Try.prog.info? 43).map (fun i => (i.zero, i.size, i.bytes)) = some (some (.agg #[.int .i64 0, .int .i64 0, .string ⟨#[]⟩]), 3, 32) := by kernel_rfl

theorem covers_no (w : World) (b : Nat) (m : Mem) (a : Int) (x : Bool) (h : MemAt w b m) (hx : (decide (0 ≤ a) && decide (a < 128) && m.c a.toNat) = x) :
    Calls Try.prog 58 #[.pointer (some ⟨b, 0, none⟩), .int .i64 a] w fun e w' => e = .returned (.bool x) ∧ w' = w := by
  rw [← hx]; exact covers_any w b m a h

set_option maxRecDepth 100000 in
set_option maxHeartbeats 4000000 in
theorem runs_any (w : World) (b : Nat) (m : Mem) (h : MemAt w b m) :
    Calls Try.prog 59 #[.pointer (some ⟨b, 0, none⟩)] w fun e w' => ∃ v, e = .returned v ∧ w'.ownsRow w.heap.size 43 3 v (runsOf m).length (segCells (runsOf m)) ∧ Below w.heap.size w w' := by
  obtain ⟨i0, hi, hz0, hz1, hz2⟩ := info_parts Try.info43
  have hbl := h.lt
  go_enter Try.func59, Try.ntmps59
  go_wp2
  go_loopw [3, 4, 5] (fun v i _ wr => ∃ k : Nat, k ≤ 128 ∧ i = .int .i64 k ∧ wr.ownsRow w.heap.size 43 3 v (runsTo m k).length (segCells (runsTo m k)) ∧ Below w.heap.size w wr) (fun _ i _ _ => 128 - (intOf i).toNat)
  case atStart => exact ⟨0, by omega, rfl, World.ownsRow_nil _ _ _ _, Below.refl _ _⟩
  case round =>
    obtain ⟨k, hk, rfl, hown, hbel⟩ := hrel
    have hm := h.kept hbel
    by_cases hlt : k < 128
    · have c1 := hm.cov k hlt
      have hlt' : (k : Int) < 128 := by omega
      cases hck : m.c k
      · rw [hck] at c1
        have hno : Hid (runsTo m (k + 1) = runsTo m k) := by unfold Hid; rw [runsTo_succ, if_neg (by simp [isStart, hck]), List.append_nil]
        go_wp2
        go_roundw
        case rel => exact ⟨k + 1, by omega, by go_num, by rw [hno.out]; exact hown, hbel⟩
        case measure => simp [intOf]; omega
      · rw [hck] at c1
        cases hst : isStart m k
        · have hno : Hid (runsTo m (k + 1) = runsTo m k) := by unfold Hid; rw [runsTo_succ, if_neg (by simp [hst]), List.append_nil]
          have hcv : (decide (0 ≤ (k : Int) - 1) && decide ((k : Int) - 1 < 128) && m.c ((k : Int) - 1).toNat) = true := by
            simp only [isStart, hck, Bool.true_and, Bool.not_eq_false', Bool.and_eq_true, decide_eq_true_eq] at hst
            rw [decide_eq_true (by omega), decide_eq_true (by omega), show ((k : Int) - 1).toNat = k - 1 by omega]
            simp [hst.2]
          have HCV := covers_no wr b m ((k : Int) - 1) true hm hcv
          clear hcv hst
          go_wp2_with (go_at_call 58; refine HCV.mono ?_; rintro e w2 ⟨rfl, rfl⟩)
          go_roundw
          case rel => exact ⟨k + 1, by omega, by go_num, by rw [hno.out]; exact hown, hbel⟩
          case measure => simp [intOf]; omega
        · have hyes : Hid (runsTo m (k + 1) = runsTo m k ++ [runOf m k]) := by unfold Hid; rw [runsTo_succ, if_pos (by simp [hst])]
          have hcv : (decide (0 ≤ (k : Int) - 1) && decide ((k : Int) - 1 < 128) && m.c ((k : Int) - 1).toNat) = false := by
            simp only [isStart, hck, Bool.true_and, Bool.not_eq_true', Bool.and_eq_false_iff, decide_eq_false_iff_not] at hst
            rcases hst with h0 | h0
            · rw [decide_eq_false (by omega)]; simp
            · by_cases hk0 : 0 < k
              · rw [show ((k : Int) - 1).toNat = k - 1 by omega, h0]; simp
              · rw [decide_eq_false (by omega)]; simp
          have HCV := covers_no wr b m ((k : Int) - 1) false hm hcv
          clear hcv hst
          have hrl := runsTo_length m k
          have hrn := runAt_any wr b m k hm hlt hck
          obtain ⟨r, hr⟩ : ∃ r, r = runOf m k := ⟨_, rfl⟩
          rw [← hr] at hyes hrn
          clear hr
          obtain ⟨x1, x2, x3⟩ := r
          have hsg : Hid (segCells (runsTo m (k + 1)) = segCells (runsTo m k) ++ [.int .i64 x1, .int .i64 x2, .string x3]) := by unfold Hid; rw [hyes.out, segCells_append]; rfl
          have hln : Hid ((runsTo m (k + 1)).length = (runsTo m k).length + 1) := by unfold Hid; rw [hyes.out]; simp
          clear hyes
          go_wp2_with (first
            | (go_at_call 58; refine HCV.mono ?_; rintro e w2 ⟨rfl, rfl⟩)
            | (go_at_call 64; refine hrn.mono ?_; rintro e w3 ⟨rfl, hb3⟩; simp only [Seg.v])
            | (at_builtin; refine wpList_append_own _ rfl _ _ 23 rfl w.heap.size 43 i0 _ 3 32 Try.underlying23 hi hz0 hz1 hz2 rfl (by decide) _ _ _ rfl (((ownsRow_below hown hb3).alloc _).alloc _) ⟨w3.heap.size + 1, 0, none⟩ 1 1 [.int .i64 x1, .int .i64 x2, .string x3] rfl rfl ?c1 ?c2 ?c3 ?c4 ?c5 ?_))
          case c1 => exact cells_new w3 _ _ _ _ rfl
          case c2 => intro u hu; simp at hu; rcases hu with rfl | rfl | rfl <;> rfl
          case c3 => unfold maxLen; omega
          case c4 => omega
          case c5 => have := hbel.size; have := hb3.size; simp; omega
          intro v' w4 hown4 hgr4 _
          have hbl4 : Below w.heap.size w w4 := by
            refine ((((hbel.trans (hb3.mono hbel.size)).alloc ?_ _).alloc ?_ _)).grown hgr4 ?_ ?_
            · have := hbel.size; have := hb3.size; omega
            · have := hbel.size; have := hb3.size; simp; omega
            · have := hbel.size; have := hb3.size; simp; omega
            · exact own_lt hown
          rw [← hsg.out, ← hln.out] at hown4
          clear hgr4 hown hbel hb3 hm c1
          go_wp2
          go_roundw
          case rel => exact ⟨k + 1, by omega, by go_num, hown4, hbl4⟩
          case measure => simp [intOf]; omega
    · have hk2 : k = 128 := by omega
      subst hk2
      go_wp2
      go_ret
      exact ⟨_, rfl, hown, hbel⟩
end Go.Proofs.Ytcokahccbjdeaaa
