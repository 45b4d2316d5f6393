import Derived.Test.YtcokahccbjdeaaaUnB
namespace Go.Proofs.Ytcokahccbjdeaaa
open Go.RowKit

def unpackR (l : List UInt8) : Option (Int × Int × List Seg) :=
  if l.length < 6 then none
  else match parseK l 6 (l.getD 5 0).toNat with
    | none => none
    | some (rs, _) => if packM (((l.getD 2 0).toNat : Int) * (256 : Int) + (l.getD 3 0).toNat) ((l.getD 4 0).toNat : Int) rs = (l, 0) then some (((l.getD 2 0).toNat : Int) * (256 : Int) + (l.getD 3 0).toNat, ((l.getD 4 0).toNat : Int), rs) else none

theorem parseK_ok (t : List UInt8) (at0 : Nat) : ∀ k q p', parseK t at0 k = some (q, p') → ∀ s ∈ q, s.ok := by
  intro k
  induction k with
  | zero => intro q p' h s hs; simp [parseK] at h; rw [h.1] at hs; cases hs
  | succ k ih =>
    intro q p' h s hs
    simp only [parseK] at h
    split at h
    · cases h
    · rename_i q0 p0 h0
      split at h
      · cases h
      · split at h
        · cases h
        · obtain ⟨rfl, rfl⟩ := Prod.mk.inj (Option.some.inj h)
          rcases List.mem_append.1 hs with hs | hs
          · exact ih _ _ h0 s hs
          · simp only [List.mem_singleton] at hs
            subst hs
            have t1 := (t.getD p0 0).toNat_lt
            have t2 := (t.getD (p0 + 1) 0).toNat_lt
            have t4 := (t.getD (p0 + 2) 0).toNat_lt
            have t3 : (mk ((t.drop (p0 + 3)).take (t.getD (p0 + 2) 0).toNat)).size ≤ 256 := by
              rw [mk_size]; simp only [List.length_take, List.length_drop]; omega
            refine ⟨?_, ?_, ?_, ?_, ?_⟩ <;> dsimp only <;> omega

set_option maxRecDepth 100000 in
set_option maxHeartbeats 8000000 in
theorem refUnpack_any (w : World) (s : ByteArray) (hs : s.size < 4611686018427387904) :
    Calls Try.prog 18 #[.string s] w fun en w' => (unpackR s.data.toList = none → en = .returned (.tuple #[.int .i64 0, .int .i64 0, .slice none 0 0, .int .i64 6])) ∧ (∀ v e rs, unpackR s.data.toList = some (v, e, rs) → ∃ (a : Option Addr) (cap : Nat), en = .returned (.tuple #[.int .i64 v, .int .i64 e, .slice a rs.length cap, .int .i64 0]) ∧ w'.ownsRow w.heap.size 43 3 (.slice a rs.length cap) rs.length (segCells rs)) ∧ Below w.heap.size w w' := by
  obtain ⟨i0, hi, hz0, hz1, hz2⟩ := info_parts Try.info43
  obtain ⟨t, ht⟩ : ∃ t, t = s.data.toList := ⟨_, rfl⟩
  have HT : Hid (t = s.data.toList) := ht
  have htl : t.length = s.size := by rw [ht]; rfl
  rw [← ht]
  clear ht
  by_cases h6 : s.size < 6
  · have h6' : (s.size : Int) < 6 := by omega
    have hun : Hid (unpackR t = none) := by unfold unpackR Hid; rw [if_pos (by omega)]
    go_enter Try.func18, Try.ntmps18
    go_wp2
    refine bodyPost_ret (results_tmp4 rfl _ _ _) rfl ⟨fun _ => rfl, fun v e rs h => ?_, Below.refl _ _⟩
    rw [hun.out] at h; cases h
  · have h6' : ¬ (s.size : Int) < 6 := by omega
    have h5 : 5 < s.size := by omega
    have g2 : 2 < s.size := by omega
    have g3 : 3 < s.size := by omega
    have g4 : 4 < s.size := by omega
    have h51 : (5 : Int) < s.size := by omega
    have h21 : (2 : Int) < s.size := by omega
    have h31 : (3 : Int) < s.size := by omega
    have h41 : (4 : Int) < s.size := by omega
    have b2 := s[2].toNat_lt
    have b3 := s[3].toNat_lt
    have b4 := s[4].toNat_lt
    have b5 := s[5].toNat_lt
    obtain ⟨V, hV⟩ : ∃ V : Int, V = (s[2].toNat : Int) * (256 : Int) + (s[3].toNat : Int) := ⟨_, rfl⟩
    obtain ⟨E, hE⟩ : ∃ E : Int, E = (s[4].toNat : Int) := ⟨_, rfl⟩
    have HV : Hid (V = (s[2].toNat : Int) * (256 : Int) + (s[3].toNat : Int)) := hV
    have HE : Hid (E = (s[4].toNat : Int)) := hE
    have hun : unpackR t = (match parseK t 6 (t.getD 5 0).toNat with
      | none => none
      | some (rs, _) => if packM V E rs = (t, 0) then some (V, E, rs) else none) := by
      have e2 : (t.getD 2 0) = s[2] := by rw [HT.out]; exact ba_getD s 2 g2
      have e3 : (t.getD 3 0) = s[3] := by rw [HT.out]; exact ba_getD s 3 g3
      have e4 : (t.getD 4 0) = s[4] := by rw [HT.out]; exact ba_getD s 4 g4
      unfold unpackR
      rw [if_neg (by omega), e2, e3, e4, hV, hE]
    have e5 : (t.getD 5 0) = s[5] := by rw [HT.out]; exact ba_getD s 5 h5
    rw [e5] at hun
    have HU1 : Hid (parseK t 6 s[5].toNat = none → unpackR t = none) := fun h => by rw [hun, h]
    have HU2 : Hid (∀ rs p, parseK t 6 s[5].toNat = some (rs, p) → packM V E rs = (t, 0) → unpackR t = some (V, E, rs)) := fun rs p h hp => by rw [hun, h]; dsimp only; rw [if_pos hp]
    have HU3 : Hid (∀ rs p, parseK t 6 s[5].toNat = some (rs, p) → packM V E rs ≠ (t, 0) → unpackR t = none) := fun rs p h hp => by rw [hun, h]; dsimp only; rw [if_neg hp]
    clear hV hE hun e5
    have ww4 : IntKind.i64.wrap (s[4].toNat : Int) = (s[4].toNat : Int) := by rw [IntKind.wrap_i64]; omega
    have HC : Hid (s[5].toNat ≤ 255) := by unfold Hid; omega
    have ww2 : IntKind.i64.wrap (s[2].toNat : Int) = (s[2].toNat : Int) := by rw [IntKind.wrap_i64]; omega
    have ww3 : IntKind.i64.wrap (s[3].toNat : Int) = (s[3].toNat : Int) := by rw [IntKind.wrap_i64]; omega
    have ww5 : IntKind.i64.wrap ((s[2].toNat : Int) * (256 : Int)) = (s[2].toNat : Int) * (256 : Int) := by rw [IntKind.wrap_i64]; omega
    have ww6 : IntKind.i64.wrap ((s[2].toNat : Int) * (256 : Int) + (s[3].toNat : Int)) = (s[2].toNat : Int) * (256 : Int) + (s[3].toNat : Int) := by rw [IntKind.wrap_i64]; omega
    go_enter Try.func18, Try.ntmps18
    go_wp2
    go_region
    all_goals go_wp2
    go_loopw [2, 3, 4, 5, 8, 9, 10, 11] (fun _ _ _ _ v a i _ wr => ∃ k : Nat, k ≤ s[5].toNat ∧ i = .int .i64 k ∧ ∃ (rs : List Seg) (p : Nat), Hid (parseK t 6 k = some (rs, p)) ∧ p ≤ s.size ∧ a = .int .i64 p ∧ Hid (rs.length = k) ∧ wr.ownsRow w.heap.size 43 3 v rs.length (segCells rs) ∧ Below w.heap.size w wr) (fun _ _ _ _ _ _ i _ _ => s[5].toNat - (intOf i).toNat)
    case atStart => exact ⟨0, by omega, rfl, [], 6, rfl, by omega, rfl, rfl, World.ownsRow_nil _ _ _ _, (Below.refl _ _).drew⟩
    case round =>
      obtain ⟨k, hk, rfl, rs, p, hpk, hp, rfl, hrl, hown, hbel⟩ := hrel
      have ww55 : IntKind.i64.wrap (s[5].toNat : Int) = (s[5].toNat : Int) := by rw [IntKind.wrap_i64]; omega
      by_cases hlt : k < s[5].toNat
      · have hltI : (k : Int) < (s[5].toNat : Int) := by omega
        by_cases h1 : s.size < p + 3
        · have h1' : (s.size : Int) < (p : Int) + 3 := by omega
          have hnone : Hid (unpackR t = none) := by
            apply HU1.out
            apply parseK_none t 6 (k + 1) _ _ (by omega)
            simp only [parseK, hpk.out]; rw [if_pos (by omega)]
          go_wp2
          refine bodyPost_ret (results_tmp4 rfl _ _ _) rfl ⟨fun _ => rfl, fun v e rs h => ?_, hbel⟩
          rw [hnone.out] at h; cases h
        · have h1' : (p : Int) + 3 ≤ s.size := by omega
          have hb2 : p + 2 < s.size := by omega
          have hg2 : Hid (t.getD (p + 2) 0 = s[p + 2]) := by unfold Hid; rw [HT.out]; exact ba_getD s _ hb2
          have hb2' : (s[p + 2].toNat : Int) < 256 := by have := s[p + 2].toNat_lt; omega
          by_cases h2 : s.size < p + 3 + s[p + 2].toNat
          · have h2' : (s.size : Int) < (p : Int) + 3 + s[p + 2].toNat := by omega
            have hnone : Hid (unpackR t = none) := by
              apply HU1.out
              apply parseK_none t 6 (k + 1) _ _ (by omega)
              simp only [parseK, hpk.out]; rw [if_neg (by omega), hg2.out, if_pos (by omega)]
            clear hg2
            go_wp2
            refine bodyPost_ret (results_tmp4 rfl _ _ _) rfl ⟨fun _ => rfl, fun v e rs h => ?_, hbel⟩
            rw [hnone.out] at h; cases h
          · have h2' : (p : Int) + 3 + s[p + 2].toNat ≤ s.size := by omega
            have hb0 : p < s.size := by omega
            have hb1 : p + 1 < s.size := by omega
            have hb0' : (s[p].toNat : Int) < 256 := by have := s[p].toNat_lt; omega
            have hb1' : (s[p + 1].toNat : Int) < 256 := by have := s[p + 1].toNat_lt; omega
            have hsome : Hid (parseK t 6 (k + 1) = some (rs ++ [⟨(s[p].toNat : Int), (s[p + 1].toNat : Int), s.extract (p + 3) (p + 3 + s[p + 2].toNat)⟩], p + 3 + s[p + 2].toNat)) := by
              unfold Hid
              simp only [parseK, hpk.out]
              rw [if_neg (by omega), hg2.out, if_neg (by omega), extract_mk, HT.out, ba_getD s p hb0, ba_getD s (p + 1) hb1, Nat.add_sub_cancel_left]
            have hsg : Hid (segCells (rs ++ [⟨(s[p].toNat : Int), (s[p + 1].toNat : Int), s.extract (p + 3) (p + 3 + s[p + 2].toNat)⟩]) = segCells rs ++ [.int .i64 (s[p].toNat : Int), .int .i64 (s[p + 1].toNat : Int), .string (s.extract (p + 3) (p + 3 + s[p + 2].toNat))]) := by
              unfold Hid; rw [segCells_append]; rfl
            have hpI : (p : Int) < s.size := by omega
            have hpI1 : (p : Int) + 1 < s.size := by omega
            have hl1 : rs.length + 1 ≤ 255 := by have := hrl.out; have := HC.out; omega
            have X0 := fun wx => run_idx wx s p hb0 (p : Int) rfl
            have X1 := fun wx => run_idx wx s (p + 1) hb1 ((p : Int) + 1) (by omega)
            have X2 := fun wx => run_sub wx s (p + 3) (p + 3 + s[p + 2].toNat) (by omega) (by omega) ((p : Int) + 3) ((p : Int) + 3 + s[p + 2].toNat) (by omega) (by omega)
            clear hg2 hpk h1 h2 HU1 HU2 HU3
            go_wp2
            have hp10 : (0 : Int) ≤ (p : Int) + 1 := by omega
            have hp30 : (0 : Int) ≤ (p : Int) + 3 := by omega
            have hp31 : (p : Int) + 3 ≤ (p : Int) + 3 + s[p + 2].toNat := by omega
            have hwr : IntKind.i64.wrap ((p : Int) + 1) = (p : Int) + 1 := by rw [IntKind.wrap_i64]; omega
            have hwr3 : IntKind.i64.wrap ((p : Int) + 3) = (p : Int) + 3 := by rw [IntKind.wrap_i64]; omega
            have hwr4 : IntKind.i64.wrap ((p : Int) + 3 + s[p + 2].toNat) = (p : Int) + 3 + s[p + 2].toNat := by rw [IntKind.wrap_i64]; omega
            have hw0 : IntKind.i64.wrap (s[p].toNat : Int) = (s[p].toNat : Int) := by rw [IntKind.wrap_i64]; omega
            have hw1 : IntKind.i64.wrap (s[p + 1].toNat : Int) = (s[p + 1].toNat : Int) := by rw [IntKind.wrap_i64]; omega
            go_region_held3 (fun _ => True) (trivial)
              ((refine step_append_lies _ (by rfl) _ _ 23 (by rfl) w.heap.size 43 i0 _ 3 32 Try.underlying23 hi hz0 hz1 hz2 rfl (by decide) _ _ _ (by rfl) (World.ownsRow.drew (hown.alloc _)) ⟨wr.heap.size, 0, none⟩ 1 1 [.int .i64 (s[p].toNat : Int), .int .i64 (s[p + 1].toNat : Int), .string (s.extract (p + 3) (p + 3 + s[p + 2].toNat))] (by rfl) rfl (fun j u h => cells_new1 wr _ _ _ rfl j u h) (by intro u hu; simp at hu; rcases hu with rfl | rfl | rfl <;> rfl) (by decide) (by unfold maxLen; omega) (by omega) (by have := hbel.size; simp; omega) (wr.heap.size + 1) (by simp) ?_; intro g cap w1 hown1 hgrow hat hlt2))
            all_goals
              have hbl4 : Below w.heap.size w w1 := ((hbel.alloc hbel.size _).drew).grown hgrow (by have := hbel.size; simp; omega) (own_lt hown)
              rw [← hsg.out] at hown1
              clear hgrow hown hbel X0 X1 X2
              go_wp2
              go_roundw
              case rel => exact ⟨k + 1, by omega, by go_num, _, _, hsome, by omega, by go_num, by unfold Hid; rw [List.length_append, hrl.out]; rfl, by rw [List.length_append]; exact hown1, hbl4⟩
              case measure => simp [intOf]; omega
      · have hkc : k = s[5].toNat := by omega
        have hok := parseK_ok t 6 k rs p hpk.out
        obtain ⟨_, a1, b1, cap1, hv, r1, r2, r3, _, _⟩ := SegsAt_of_own hown
        have hrl2 := hrl.out
        have HC2 := HC.out
        have HP := refPack_any wr V E a1 b1 0 cap1 rs r1 r2 hok (fun h => (r3 h).1) (by omega)
        rw [HV.out, HE.out] at HP
        rw [hv] at hown
        subst hv
        clear hrl2 HC2 r1 r2 r3 hok
        have HPK : Hid (parseK t 6 s[5].toNat = some (rs, p)) := by rw [← hkc]; exact hpk
        have hltn : ¬ (k : Int) < (s[5].toNat : Int) := by omega
        have hb2 : ∀ w3, Below wr.heap.size wr w3 → Below w.heap.size w w3 := fun w3 h => hbel.trans (h.mono hbel.size)
        by_cases heq : packM V E rs = (t, 0)
        · have hU := HU2.out rs p HPK.out heq
          have HUU : Hid (unpackR t = some (V, E, rs)) := hU
          rw [← HV.out, ← HE.out, heq] at HP
          dsimp only at HP
          rw [HT.out, mk_list, HV.out, HE.out] at HP
          have HVO : Hid (V = (s[2].toNat : Int) * (256 : Int) + (s[3].toNat : Int) ∧ E = (s[4].toNat : Int)) := ⟨HV.out, HE.out⟩
          clear hU heq HU1 HU2 HU3 HPK hpk hkc
          go_wp2_with (go_at_call 16; refine HP.mono ?_; rintro en w3 ⟨rfl, hb3⟩)
          refine bodyPost_ret (results_tmp4 rfl _ _ _) rfl ⟨fun h => ?_, fun v e rs' h => ?_, hb2 _ hb3⟩
          · rw [HUU.out] at h; cases h
          · rw [HUU.out] at h
            simp only [Option.some.injEq, Prod.mk.injEq] at h
            obtain ⟨rfl, rfl, rfl⟩ := h
            refine ⟨a1, cap1, ?_, ownsRow_below hown hb3⟩
            rw [HVO.out.1, HVO.out.2]; rfl
        · have hU := HU3.out rs p HPK.out heq
          have HUU : Hid (unpackR t = none) := hU
          have hne2 : (packM V E rs).2 = 0 → ¬ (mk (packM V E rs).1).toList = s.toList := by
            intro h0 h1
            apply heq
            refine Prod.ext ?_ h0
            have h2 : mk (packM V E rs).1 = s := ba_ext h1
            rw [HT.out, ← h2, mk_data]
          rw [← HV.out, ← HE.out] at HP
          obtain ⟨q1, hq1⟩ : ∃ r, r = mk (packM V E rs).1 := ⟨_, rfl⟩
          obtain ⟨q2, hq2⟩ : ∃ r, r = (packM V E rs).2 := ⟨_, rfl⟩
          rw [← hq1, ← hq2] at HP hne2
          rw [HV.out, HE.out] at HP
          clear hq1 hq2 hU heq HU1 HU2 HU3 HPK hpk hkc
          by_cases h0 : q2 = 0
          · have hn := hne2 h0
            subst h0
            have hn' : (q1.toList == s.toList) = false := by simpa using hn
            clear hne2
            go_wp2_with (go_at_call 16; refine HP.mono ?_; rintro en w3 ⟨rfl, hb3⟩)
            refine bodyPost_ret (results_tmp4 rfl _ _ _) rfl ⟨fun _ => rfl, fun v e rs' h => ?_, hb2 _ hb3⟩
            rw [HUU.out] at h; cases h
          · have h0' : (q2 == 0) = false := by simpa using h0
            clear hne2
            go_wp2_with (go_at_call 16; refine HP.mono ?_; rintro en w3 ⟨rfl, hb3⟩)
            refine bodyPost_ret (results_tmp4 rfl _ _ _) rfl ⟨fun _ => rfl, fun v e rs' h => ?_, hb2 _ hb3⟩
            rw [HUU.out] at h; cases h
end Go.Proofs.Ytcokahccbjdeaaa
