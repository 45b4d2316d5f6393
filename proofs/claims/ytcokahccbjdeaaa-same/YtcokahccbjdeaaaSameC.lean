import Derived.Test.YtcokahccbjdeaaaSameB
namespace Go.Proofs.Ytcokahccbjdeaaa
open Go.RowKit

set_option maxRecDepth 100000 in
set_option maxHeartbeats 8000000 in
theorem halves_any (w : World) (a : Option Addr) (cap : Nat) (P : List Seg) (which : Nat) (wh : Int) (h0 : -9223372036854775808 ≤ wh) (h1 : wh < 9223372036854775808) (S : SegsIn w a P) (hP : Pieces P 120) (hp1 : 1 ≤ P.length) (hp6 : P.length ≤ 6) :
    Calls Try.prog 31 #[.slice a P.length cap, .int .i64 which, .int .i64 wh] w fun e w' => ∃ (Q : List Seg) (a1 : Option Addr) (cap1 : Nat), e = .returned (.slice a1 Q.length cap1) ∧ SegsIn w' a1 Q ∧ Halved P Q ∧ Q.length ≤ 7 ∧ Below w.heap.size w w' := by
  obtain ⟨i0, hi, hz0, hz1, hz2⟩ := info_parts Try.info43
  obtain ⟨b, o, rfl, _, _, _, hblt⟩ := S.nth 0 (by omega)
  have hwr0 : IntKind.i64.wrap ((P.length : Int) - 1) = (P.length : Int) - 1 := by rw [IntKind.wrap_i64]; omega
  have HPP : Hid (Pieces P 120) := hP
  clear hP
  go_enter Try.func31, Try.ntmps31
  go_wp2
  go_loopw [7, 8, 9, 10, 11, 12] (fun v i _ _ _ _ wr => ∃ (k : Nat) (I : Int), k ≤ P.length ∧ i = .int .i64 I ∧ Hid (I = (k : Int) - 1) ∧ (∃ Q : List Seg, Hid (Halved (P.drop k) Q) ∧ Hid (Q.length ≤ P.length - k + (if which < k then 0 else 1)) ∧ wr.ownsRow w.heap.size 43 3 v Q.length (segCells Q)) ∧ Below w.heap.size w wr) (fun _ i _ _ _ _ _ => (intOf i + 1).toNat)
  case atStart => exact ⟨P.length, (P.length : Int) - 1, Nat.le_refl _, by go_num, rfl, ⟨[], by rw [List.drop_of_length_le (Nat.le_refl _)]; exact Halved.nil, Nat.zero_le _, World.ownsRow_nil _ _ _ _⟩, Below.refl _ _⟩
  case round =>
    obtain ⟨k, I, hk, rfl, hI, ⟨Q, hQ, hQl, hown⟩, hbel⟩ := hrel
    rcases k with _ | j
    · have hIm : I = -1 := by have := hI.out; omega
      subst hIm
      clear hI
      go_wp2
      go_ret
      obtain ⟨_, a1, b1, cap1, hv, _⟩ := SegsAt_of_own hown
      subst hv
      have hq := hQ.out
      rw [List.drop_zero] at hq
      have hql := hQl.out
      rw [if_neg (by omega)] at hql
      exact ⟨Q, a1, cap1, rfl, SegsIn.of_own hown, hq, by omega, hbel⟩
    · have hIm : I = (j : Int) := by have := hI.out; omega
      subst hIm
      clear hI
      have hj : j < P.length := by omega
      have hjI : (j : Int) < (P.length : Int) := by omega
      have hj0 : (0 : Int) ≤ (j : Int) := by omega
      obtain ⟨b', o', hbo, d1, d2, d3, _⟩ := (S.kept hbel).nth j hj
      obtain ⟨rfl, rfl⟩ : b' = b ∧ o' = o := by cases hbo; exact ⟨rfl, rfl⟩
      clear hbo
      have hsz := HPP.out.size P[j] (List.getElem_mem hj)
      have hfit : Hid (P[j].fits = true) := by
        unfold Hid; rw [Seg.fits_iff]; exact ⟨hsz.1, hsz.2.1, by omega, hsz.2.2.2.1⟩
      have hlow : Hid (∀ t ∈ P.drop (j + 1), P[j].addr + P[j].size ≤ t.addr) := by
        intro t ht
        obtain ⟨i, hi, rfl⟩ := List.mem_iff_getElem.1 ht
        rw [List.getElem_drop]
        exact List.pairwise_iff_getElem.1 HPP.out.order j (j + 1 + i) hj (by simp at hi; omega) (by omega)
      have hdc : Hid (P.drop j = P[j] :: P.drop (j + 1)) := drop_cons hj
      have hQl6 : Q.length ≤ 7 := by have := hQl.out; split at this <;> omega
      generalize P[j] = sg at *
      obtain ⟨x, z, d⟩ := sg
      dsimp only at d1 d2 d3 hsz hlow hfit
      obtain ⟨g1, g2, g3, g4, g5⟩ := hsz
      by_cases hc : ¬ (j : Int) = (which : Int) ∨ z < 2
      · have hKeep : Hid (Halved (P.drop j) (Q ++ [⟨x, z, d⟩])) := by unfold Hid; rw [hdc.out]; exact hQ.out.keep _ hfit.out hlow.out
        have hln : Hid ((Q ++ [(⟨x, z, d⟩ : Seg)]).length ≤ P.length - j + (if which < j then 0 else 1)) := by
          have := hQl.out
          unfold Hid
          rw [List.length_append, List.length_singleton]
          split at this <;> split <;> omega
        have hsg : segCells Q ++ [.int .i64 x, .int .i64 z, .string d] = segCells (Q ++ [⟨x, z, d⟩]) := by rw [segCells_append]; rfl
        have HSG : Hid (segCells Q ++ [.int .i64 x, .int .i64 z, .string d] = segCells (Q ++ [⟨x, z, d⟩])) := hsg
        clear hsg hdc hQ hQl hlow hfit
        by_cases hc1 : (j : Int) = (which : Int)
        · have hc2 : z < 2 := by omega
          have hwj : which = j := by omega
          subst hwj
          clear hc hc1
          go_wp2_with (at_builtin; refine wpList_append_own _ rfl _ _ 23 rfl w.heap.size 43 i0 _ 3 32 Try.underlying23 hi hz0 hz1 hz2 rfl (by decide) _ _ _ rfl ((hown.alloc _).alloc _) ⟨wr.heap.size + 1, 0, none⟩ 1 1 [.int .i64 x, .int .i64 z, .string d] rfl rfl ?c1 ?c2 ?c3 ?c4 ?c5 ?_)
          case c1 => exact cells_new wr _ _ _ _ rfl
          case c2 => intro u hu; simp at hu; rcases hu with rfl | rfl | rfl <;> rfl
          case c3 => unfold maxLen; omega
          case c4 => omega
          case c5 => have := hbel.size; simp; omega
          intro v' w4 hown4 hgr4 _
          have hbl4 : Below w.heap.size w w4 := by
            refine ((hbel.alloc ?_ _).alloc ?_ _).grown hgr4 ?_ (own_lt hown)
            · have := hbel.size; omega
            · have := hbel.size; simp; omega
            · have := hbel.size; simp; omega
          rw [HSG.out] at hown4
          have HOW : Hid (w4.ownsRow w.heap.size 43 3 v' (Q.length + 1) (segCells (Q ++ [⟨x, z, d⟩]))) := hown4
          clear hown4 hgr4 hown hbel
          go_wp2
          go_roundw
          case rel => exact ⟨which, (which : Int) - 1, by omega, by go_num, rfl, ⟨Q ++ [⟨x, z, d⟩], hKeep, hln, by rw [List.length_append]; exact HOW.out⟩, hbl4⟩
          case measure => simp [intOf]
        · clear hc
          go_wp2_with (at_builtin; refine wpList_append_own _ rfl _ _ 23 rfl w.heap.size 43 i0 _ 3 32 Try.underlying23 hi hz0 hz1 hz2 rfl (by decide) _ _ _ rfl ((hown.alloc _).alloc _) ⟨wr.heap.size + 1, 0, none⟩ 1 1 [.int .i64 x, .int .i64 z, .string d] rfl rfl ?c1 ?c2 ?c3 ?c4 ?c5 ?_)
          case c1 => exact cells_new wr _ _ _ _ rfl
          case c2 => intro u hu; simp at hu; rcases hu with rfl | rfl | rfl <;> rfl
          case c3 => unfold maxLen; omega
          case c4 => omega
          case c5 => have := hbel.size; simp; omega
          intro v' w4 hown4 hgr4 _
          have hbl4 : Below w.heap.size w w4 := by
            refine ((hbel.alloc ?_ _).alloc ?_ _).grown hgr4 ?_ (own_lt hown)
            · have := hbel.size; omega
            · have := hbel.size; simp; omega
            · have := hbel.size; simp; omega
          rw [HSG.out] at hown4
          have HOW : Hid (w4.ownsRow w.heap.size 43 3 v' (Q.length + 1) (segCells (Q ++ [⟨x, z, d⟩]))) := hown4
          clear hown4 hgr4 hown hbel
          go_wp2
          go_roundw
          case rel => exact ⟨j, (j : Int) - 1, by omega, by go_num, rfl, ⟨Q ++ [⟨x, z, d⟩], hKeep, hln, by rw [List.length_append]; exact HOW.out⟩, hbl4⟩
          case measure => simp [intOf]
      · have hz2' : ¬ z < 2 := by omega
        have hwj : which = j := by omega
        subst hwj
        have hln : Hid (Q.length + 2 ≤ P.length - which + (if which < which then 0 else 1)) := by
          have := hQl.out
          unfold Hid
          rw [if_pos (Nat.lt_succ_self _)] at this
          rw [if_neg (Nat.lt_irrefl _)]
          omega
        have hPK := pick_any (wr.alloc (.cells #[.int .i64 x, .int .i64 z, .string d] 43)) wh (z - 1) h0 h1 (by omega) (by omega)
        clear hc hQl
        go_upto_region 11 with (go_at_call 26; refine hPK.mono ?_; rintro en w2 ⟨n1, rfl, hn0, hn1, rfl⟩)
        obtain ⟨n, hn⟩ : ∃ n : Nat, (n : Int) = 1 + n1 := ⟨(1 + n1).toNat, by omega⟩
        rw [← hn]
        have hnz : (n : Int) < z := by omega
        have hnn : (1 : Int) ≤ (n : Int) := by omega
        clear hPK hn hn0 hn1
        have hnl : 1 ≤ n := by omega
        by_cases hdn : n < d.size
        · have hdnI : (n : Int) < (d.size : Int) := by omega
          have hdnI2 : (n : Int) ≤ (d.size : Int) := by omega
          have hCut : Hid (Halved (P.drop which) (Q ++ [⟨x + n, z - n, d.extract n d.size⟩, ⟨x, n, d.extract 0 n⟩])) := by
            unfold Hid; rw [hdc.out]
            refine hQ.out.cut x z n d _ _ hfit.out hlow.out hnn hnz ?_ ?_ ?_ ?_
            · rw [extract_sz _ _ _ (by omega) (by omega)]; omega
            · rw [extract_sz _ _ _ (by omega) (by omega)]; omega
            · intro i hi; rw [Int.toNat_natCast] at hi; exact take_get d n i hi
            · intro i; rw [Int.toNat_natCast]; exact drop_get d n i
          have HSG : Hid (segCells Q ++ [.int .i64 (x + n), .int .i64 (z - n), .string (d.extract n d.size), .int .i64 x, .int .i64 n, .string (d.extract 0 n)] = segCells (Q ++ [⟨x + n, z - n, d.extract n d.size⟩, ⟨x, n, d.extract 0 n⟩])) := by unfold Hid; rw [segCells_append]; rfl
          clear hdc hQ hlow hfit
          go_wp2_with (at_builtin; refine wpList_append_own _ rfl _ _ 23 rfl w.heap.size 43 i0 _ 3 32 Try.underlying23 hi hz0 hz1 hz2 rfl (by decide) _ _ _ rfl ((((hown.alloc _).alloc _).alloc _).alloc _) ⟨wr.heap.size + 1 + 1 + 1, 0, none⟩ 2 2 [.int .i64 (x + n), .int .i64 (z - n), .string (d.extract n d.size), .int .i64 x, .int .i64 n, .string (d.extract 0 n)] rfl rfl ?c1 ?c2 ?c3 ?c4 ?c5 ?_)
          case c1 => exact cells_newN _ _ (by simp) _ _ _ rfl
          case c2 => intro u hu; simp at hu; rcases hu with rfl | rfl | rfl | rfl | rfl | rfl <;> rfl
          case c3 => unfold maxLen; omega
          case c4 => omega
          case c5 => have := hbel.size; simp; omega
          intro v' w4 hown4 hgr4 _
          have hbl4 : Below w.heap.size w w4 := by
            refine ((((hbel.alloc ?_ _).alloc ?_ _).alloc ?_ _).alloc ?_ _).grown hgr4 ?_ (own_lt hown)
            · have := hbel.size; omega
            · have := hbel.size; simp; omega
            · have := hbel.size; simp; omega
            · have := hbel.size; simp; omega
            · have := hbel.size; simp; omega
          rw [HSG.out] at hown4
          have HOW : Hid (w4.ownsRow w.heap.size 43 3 v' (Q.length + 2) (segCells (Q ++ [⟨x + n, z - n, d.extract n d.size⟩, ⟨x, n, d.extract 0 n⟩]))) := hown4
          clear hown4 hgr4 hown hbel
          go_wp2
          go_roundw
          case rel => exact ⟨which, (which : Int) - 1, by omega, by go_num, rfl, ⟨Q ++ [⟨x + n, z - n, d.extract n d.size⟩, ⟨x, n, d.extract 0 n⟩], hCut, by unfold Hid; rw [List.length_append]; exact hln.out, by rw [List.length_append]; exact HOW.out⟩, hbl4⟩
          case measure => simp [intOf]
        · have hdnI : ¬ (n : Int) < (d.size : Int) := by omega
          have hCut : Hid (Halved (P.drop which) (Q ++ [⟨x + n, z - n, ⟨#[]⟩⟩, ⟨x, n, d⟩])) := by
            unfold Hid; rw [hdc.out]
            refine hQ.out.cut x z n d _ _ hfit.out hlow.out hnn hnz ?_ ?_ ?_ ?_
            · omega
            · have : (⟨#[]⟩ : ByteArray).size = 0 := rfl
              omega
            · intro i _; rfl
            · intro i
              rw [Int.toNat_natCast]
              have hl : d.data.toList.length = d.size := rfl
              simp only [List.getD_eq_getElem?_getD]
              rw [List.getElem?_eq_none (l := d.data.toList) (by omega)]
              rfl
          have HSG : Hid (segCells Q ++ [.int .i64 (x + n), .int .i64 (z - n), .string ⟨#[]⟩, .int .i64 x, .int .i64 n, .string d] = segCells (Q ++ [⟨x + n, z - n, ⟨#[]⟩⟩, ⟨x, n, d⟩])) := by unfold Hid; rw [segCells_append]; rfl
          clear hdc hQ hlow hfit
          go_wp2_with (at_builtin; refine wpList_append_own _ rfl _ _ 23 rfl w.heap.size 43 i0 _ 3 32 Try.underlying23 hi hz0 hz1 hz2 rfl (by decide) _ _ _ rfl ((((hown.alloc _).alloc _).alloc _).alloc _) ⟨wr.heap.size + 1 + 1 + 1, 0, none⟩ 2 2 [.int .i64 (x + n), .int .i64 (z - n), .string ⟨#[]⟩, .int .i64 x, .int .i64 n, .string d] rfl rfl ?c1 ?c2 ?c3 ?c4 ?c5 ?_)
          case c2 => exact ⟨rfl, rfl, rfl, rfl, rfl, rfl⟩
          case c3 => unfold maxLen; omega
          case c4 => omega
          case c5 => have := hbel.size; omega
          intro v' w4 hown4 hgr4 _
          have hbl4 : Below w.heap.size w w4 := by
            refine ((((hbel.alloc ?_ _).alloc ?_ _).alloc ?_ _).alloc ?_ _).grown hgr4 ?_ (own_lt hown)
            · have := hbel.size; omega
            · have := hbel.size; simp; omega
            · have := hbel.size; simp; omega
            · have := hbel.size; simp; omega
            · have := hbel.size; simp; omega
          rw [HSG.out] at hown4
          have HOW : Hid (w4.ownsRow w.heap.size 43 3 v' (Q.length + 2) (segCells (Q ++ [⟨x + n, z - n, ⟨#[]⟩⟩, ⟨x, n, d⟩]))) := hown4
          clear hown4 hgr4 hown hbel
          go_wp2
          go_roundw
          case rel => exact ⟨which, (which : Int) - 1, by omega, by go_num, rfl, ⟨Q ++ [⟨x + n, z - n, ⟨#[]⟩⟩, ⟨x, n, d⟩], hCut, by unfold Hid; rw [List.length_append]; exact hln.out, by rw [List.length_append]; exact HOW.out⟩, hbl4⟩
          case measure => simp [intOf]
end Go.Proofs.Ytcokahccbjdeaaa
