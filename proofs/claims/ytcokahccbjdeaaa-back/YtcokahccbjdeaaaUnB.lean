import Derived.Test.YtcokahccbjdeaaaUnA
import Derived.Deep.QuietTactic
import Derived.BigQuiet
namespace Go.Proofs.Ytcokahccbjdeaaa
open Go.RowKit

def decM (l : List UInt8) : Option (Int × Int × List Seg) :=
  if l.length < 8 ∨ 120 < l.length then none
  else match parseK ((l.drop 6).take (l.length - 8)) 0 (l.getD 5 0).toNat with
    | none => none
    | some (rs, _) => some (256 * ((l.getD 2 0).toNat : Int) + (l.getD 3 0).toNat, ((l.getD 4 0).toNat : Int), rs)

theorem decodeRuns_none (w : World) (s : ByteArray) (count : Nat) (hs : s.size ≤ 1073741824) (hc : count ≤ 255) (h : parseK s.data.toList 0 count = none) :
    Calls Try.prog 67 #[.string s, .int .i64 count] w fun e w' => e = .returned (.tuple #[.slice none 0 0, .bool false]) ∧ Below w.heap.size w w' :=
  (decodeRuns_any w s count hs hc).mono fun _ _ hh => ⟨hh.2.1 h, hh.2.2⟩
theorem decodeRuns_some (w : World) (s : ByteArray) (count : Nat) (rs : List Seg) (p : Nat) (hs : s.size ≤ 1073741824) (hc : count ≤ 255) (h : parseK s.data.toList 0 count = some (rs, p)) :
    Calls Try.prog 67 #[.string s, .int .i64 count] w fun e w' => ∃ (a : Option Addr) (cap : Nat), e = .returned (.tuple #[.slice a rs.length cap, .bool true]) ∧ w'.ownsRow w.heap.size 43 3 (.slice a rs.length cap) rs.length (segCells rs) ∧ Below w.heap.size w w' := by
  refine (decodeRuns_any w s count hs hc).mono fun e w' hh => ?_
  obtain ⟨v, rfl, hown⟩ := hh.1 rs p h
  obtain ⟨_, a, _, cap, rfl, _⟩ := SegsAt_of_own hown
  exact ⟨a, cap, rfl, hown, hh.2.2⟩

theorem ownsRow_mono {w : World} {base base' : Nat} {e : TypeId} {size : Nat} {v : Value} {n : Nat} {xs : List Value} (h : w.ownsRow base e size v n xs) (hb : base' ≤ base) : w.ownsRow base' e size v n xs := by
  refine ⟨h.1, ?_⟩
  rcases h.2 with h2 | ⟨g, cap, cur, hv, hg, r⟩
  · exact Or.inl h2
  · exact Or.inr ⟨g, cap, cur, hv, Nat.le_trans hb hg, r⟩
theorem ba_ext {a b : ByteArray} (h : a.toList = b.toList) : a = b := by
  rw [ByteArray.toList_eq, ByteArray.toList_eq] at h
  apply ByteArray.ext
  exact Array.toList_inj.1 h
/-- a block of three cells that a later world still holds -/
theorem three_cells {w w2 : World} {g : Nat} {x y z : Value} {t : TypeId} (hb : Below w.heap.size w w2) (hg : w.heap[g]? = some (.cells #[x, y, z] t (0, 0))) :
    w2.heap[g]? = some (.cells #[x, y, z] t (0, 0)) ∧ w2.cell? ⟨g, 0, none⟩ = some x ∧ w2.cell? ⟨g, 1, none⟩ = some y ∧ w2.cell? ⟨g, 2, none⟩ = some z ∧ ∀ o, w2.frozen? ⟨g, o, none⟩ = false := by
  have h2 : w2.heap[g]? = some (.cells #[x, y, z] t (0, 0)) := by rw [hb.block g (Array.getElem?_eq_some_iff.1 hg).1]; exact hg
  exact ⟨h2, by rw [cell_of_heap h2]; rfl, by rw [cell_of_heap h2]; rfl, by rw [cell_of_heap h2]; rfl, fun o => free_of_heap h2⟩

set_option maxRecDepth 100000 in
set_option maxHeartbeats 4000000 in
theorem decode_none (w : World) (s : ByteArray) (hs : s.size < 4611686018427387904) (h : decM s.data.toList = none) :
    Calls Try.prog 61 #[.string s] w fun e w' => e = .returned (.tuple #[.agg #[.int .i64 0, .int .i64 0, .slice none 0 0], .bool false]) ∧ Below w.heap.size w w' := by
  have hll : s.data.toList.length = s.size := rfl
  by_cases h1 : s.size < 8
  · have h1' : (s.size : Int) < 8 := by omega
    clear h hll
    go_enter Try.func61, Try.ntmps61
    go_wp2
    refine bodyPost_ret (v := .tuple #[.agg #[.int .i64 0, .int .i64 0, .slice none 0 0], .bool false]) (by simp [results, Try.results61, go_sem]) rfl ⟨rfl, ?_⟩
    exact (Below.refl _ _).alloc (Nat.le_refl _) _
  by_cases h2 : 120 < s.size
  · have h1' : ¬ (s.size : Int) < 8 := by omega
    have h2' : 120 < (s.size : Int) := by omega
    clear h hll
    go_enter Try.func61, Try.ntmps61
    go_wp2
    refine bodyPost_ret (v := .tuple #[.agg #[.int .i64 0, .int .i64 0, .slice none 0 0], .bool false]) (by simp [results, Try.results61, go_sem]) rfl ⟨rfl, ?_⟩
    exact (Below.refl _ _).alloc (Nat.le_refl _) _
  · have h5 : 5 < s.size := by omega
    have hpn : parseK (s.extract 6 (s.size - 2)).data.toList 0 s[5].toNat = none := by
      unfold decM at h
      rw [hll, if_neg (by omega), ba_getD s 5 h5] at h
      rw [extract_mk, mk_data, show s.size - 2 - 6 = s.size - 8 by omega]
      cases hx : parseK ((s.data.toList.drop 6).take (s.size - 8)) 0 s[5].toNat with
      | none => rfl
      | some q => rw [hx] at h; cases h
    have hc5 : s[5].toNat ≤ 255 := by have := s[5].toNat_lt; omega
    have HD := fun wx => decodeRuns_none wx (s.extract 6 (s.size - 2)) s[5].toNat (by rw [extract_mk, mk_size]; simp; omega) hc5 hpn
    have X5 := fun wx => run_idx wx s 5 h5 (5 : Int) rfl
    have XS := fun wx => run_sub wx s 6 (s.size - 2) (by omega) (by omega) (6 : Int) ((s.size : Int) - 2) (by omega) (by omega)
    obtain ⟨ex, hex⟩ : ∃ ex, ex = s.extract 6 (s.size - 2) := ⟨_, rfl⟩
    rw [← hex] at HD XS
    clear hex hpn h hll
    have h1' : ¬ (s.size : Int) < 8 := by omega
    have h2' : ¬ 120 < (s.size : Int) := by omega
    have h51 : (5 : Int) < s.size := by omega
    have hw5 : IntKind.i64.wrap (s[5].toNat : Int) = (s[5].toNat : Int) := by rw [IntKind.wrap_i64]; omega
    have hws : IntKind.i64.wrap ((s.size : Int) - 2) = (s.size : Int) - 2 := by rw [IntKind.wrap_i64]; omega
    go_enter Try.func61, Try.ntmps61
    go_wp2
    go_region_held3 (fun _ => True) (trivial)
      (first
        | (go_at_call 67; refine (HD _).mono ?_; rintro en w2 ⟨rfl, hb2⟩))
    obtain ⟨_, q0, q1, q2, fz⟩ := three_cells hb2 (heap_alloc_new w _)
    have hbT : Below w.heap.size w w2 := ((Below.refl w.heap.size w).alloc (Nat.le_refl _) _).drew.trans (hb2.mono (by simp))
    go_wp2
    refine bodyPost_ret (v := .tuple #[.agg #[.int .i64 0, .int .i64 0, .slice none 0 0], .bool false]) (by simp [results, Try.results61, go_sem, q0, q1, q2]) rfl ⟨rfl, ?_⟩
    exact ((hbT.setCell (Nat.le_refl _) _).setCell (Nat.le_refl _) _).setCell (Nat.le_refl _) _

set_option maxRecDepth 100000 in
set_option maxHeartbeats 4000000 in
theorem decode_some (w : World) (s : ByteArray) (v e : Int) (rs : List Seg) (h : decM s.data.toList = some (v, e, rs)) :
    Calls Try.prog 61 #[.string s] w fun en w' => ∃ (a : Option Addr) (cap : Nat), en = .returned (.tuple #[.agg #[.int .i64 v, .int .i64 e, .slice a rs.length cap], .bool true]) ∧ w'.ownsRow w.heap.size 43 3 (.slice a rs.length cap) rs.length (segCells rs) ∧ Below w.heap.size w w' := by
  have hll : s.data.toList.length = s.size := rfl
  unfold decM at h
  split at h
  · cases h
  rename_i hnb
  rw [hll] at hnb
  have h5 : 5 < s.size := by omega
  have g2 : 2 < s.size := by omega
  have g3 : 3 < s.size := by omega
  have g4 : 4 < s.size := by omega
  rw [hll, ba_getD s 5 h5, ba_getD s 2 g2, ba_getD s 3 g3, ba_getD s 4 g4] at h
  cases hx : parseK ((s.data.toList.drop 6).take (s.size - 8)) 0 s[5].toNat with
  | none => rw [hx] at h; cases h
  | some q =>
    obtain ⟨rs', p⟩ := q
    rw [hx] at h
    simp only [Option.some.injEq, Prod.mk.injEq] at h
    obtain ⟨rfl, rfl, rfl⟩ := h
    have hpn : parseK (s.extract 6 (s.size - 2)).data.toList 0 s[5].toNat = some (rs', p) := by
      rw [extract_mk, mk_data, show s.size - 2 - 6 = s.size - 8 by omega]; exact hx
    have hc5 : s[5].toNat ≤ 255 := by have := s[5].toNat_lt; omega
    have HD := fun wx => decodeRuns_some wx (s.extract 6 (s.size - 2)) s[5].toNat rs' p (by rw [extract_mk, mk_size]; simp; omega) hc5 hpn
    have XS := fun wx => run_sub wx s 6 (s.size - 2) (by omega) (by omega) (6 : Int) ((s.size : Int) - 2) (by omega) (by omega)
    obtain ⟨ex, hex⟩ : ∃ ex, ex = s.extract 6 (s.size - 2) := ⟨_, rfl⟩
    rw [← hex] at HD XS
    clear hex hpn hll hx
    have h1' : ¬ (s.size : Int) < 8 := by omega
    have h2' : ¬ 120 < (s.size : Int) := by omega
    have h51 : (5 : Int) < s.size := by omega
    have h21 : (2 : Int) < s.size := by omega
    have h31 : (3 : Int) < s.size := by omega
    have h41 : (4 : Int) < s.size := by omega
    have hw5 : IntKind.i64.wrap (s[5].toNat : Int) = (s[5].toNat : Int) := by rw [IntKind.wrap_i64]; omega
    have hws : IntKind.i64.wrap ((s.size : Int) - 2) = (s.size : Int) - 2 := by rw [IntKind.wrap_i64]; omega
    have b2 := s[2].toNat_lt
    have b3 := s[3].toNat_lt
    have b4 := s[4].toNat_lt
    go_enter Try.func61, Try.ntmps61
    go_wp2
    go_region_held3 (fun _ => True) (trivial)
      (first
        | (go_at_call 67; refine (HD _).mono ?_; rintro en w2 ⟨a, cap, rfl, hown, hb2⟩))
    obtain ⟨hg2, q0, q1, q2, fz⟩ := three_cells hb2 (heap_alloc_new w _)
    have hbT : Below w.heap.size w w2 := ((Below.refl w.heap.size w).alloc (Nat.le_refl _) _).drew.trans (hb2.mono (by simp))
    have HG : Hid (w2.heap[w.heap.size]? = some (.cells #[.int .i64 0, .int .i64 0, .slice none 0 0] 82 (0, 0))) := hg2
    have HOWN : Hid (w2.ownsRow (w.heap.size + 1) 43 3 (.slice a rs'.length cap) rs'.length (segCells rs')) := by unfold Hid; simpa using hown
    clear hg2 hown hb2
    have u2 : IntKind.i64.wrap (s[2].toNat : Int) = (s[2].toNat : Int) := by rw [IntKind.wrap_i64]; omega
    have u3 : IntKind.i64.wrap (s[3].toNat : Int) = (s[3].toNat : Int) := by rw [IntKind.wrap_i64]; omega
    have u4 : IntKind.i64.wrap (s[4].toNat : Int) = (s[4].toNat : Int) := by rw [IntKind.wrap_i64]; omega
    have u5 : IntKind.i64.wrap (256 * (s[2].toNat : Int)) = 256 * (s[2].toNat : Int) := by rw [IntKind.wrap_i64]; omega
    have u6 : IntKind.i64.wrap (256 * (s[2].toNat : Int) + (s[3].toNat : Int)) = 256 * (s[2].toNat : Int) + (s[3].toNat : Int) := by rw [IntKind.wrap_i64]; omega
    go_wp2
    go_region
    all_goals go_wp2
    refine bodyPost_ret (v := .tuple #[.agg #[.int .i64 (256 * (s[2].toNat : Int) + (s[3].toNat : Int)), .int .i64 (s[4].toNat : Int), .slice a rs'.length cap], .bool true]) (by simp [results, Try.results61, go_sem, q0, q1, q2]) rfl ⟨a, cap, rfl, ?_, ?_⟩
    · exact ownsRow_mono (World.ownsRow.drew (ownsRow_setCell_below (ownsRow_setCell_below (ownsRow_setCell_below HOWN.out (by simp) _) (by simp) _) (by simp) _)) (by omega)
    · exact (((hbT.setCell (Nat.le_refl _) _).setCell (Nat.le_refl _) _).setCell (Nat.le_refl _) _).drew

def unpackM (l : List UInt8) : Option (Int × Int × List Seg) :=
  match decM l with
  | none => none
  | some (v, e, rs) => if packM v e rs = (l, 0) then some (v, e, rs) else none

theorem decM_ok {l : List UInt8} {v e : Int} {rs : List Seg} (h : decM l = some (v, e, rs)) : (∀ s ∈ rs, s.ok) ∧ rs.length ≤ 255 ∧ l.length ≤ 120 := by
  unfold decM at h
  split at h
  · cases h
  · rename_i hn
    split at h
    · cases h
    · rename_i rs' p hp
      simp only [Option.some.injEq, Prod.mk.injEq] at h
      obtain ⟨rfl, rfl, rfl⟩ := h
      refine ⟨?_, ?_, by omega⟩
      · have key : ∀ k q p', parseK ((l.drop 6).take (l.length - 8)) 0 k = some (q, p') → ∀ s ∈ q, s.ok := by
          intro k
          induction k with
          | zero => intro q p' h s hs; simp [parseK] at h; rw [h.1] at hs; cases hs
          | succ k ih =>
            intro q p' h s hs
            simp only [parseK] at h
            split at h
            · cases h
            · rename_i q0 p0 h0
              split at h
              · cases h
              · split at h
                · cases h
                · obtain ⟨rfl, rfl⟩ := Prod.mk.inj (Option.some.inj h)
                  rcases List.mem_append.1 hs with hs | hs
                  · exact ih _ _ h0 s hs
                  · simp only [List.mem_singleton] at hs
                    subst hs
                    have t1 := (((l.drop 6).take (l.length - 8)).getD p0 0).toNat_lt
                    have t2 := (((l.drop 6).take (l.length - 8)).getD (p0 + 1) 0).toNat_lt
                    have t3 : (mk ((((l.drop 6).take (l.length - 8)).drop (p0 + 3)).take (((l.drop 6).take (l.length - 8)).getD (p0 + 2) 0).toNat)).size ≤ 120 := by
                      rw [mk_size]; simp only [List.length_take, List.length_drop]; omega
                    refine ⟨?_, ?_, ?_, ?_, ?_⟩ <;> dsimp only <;> omega
        exact key _ _ _ hp
      · have := (parseK_len _ _ _ hp).1
        have := (l.getD 5 0).toNat_lt
        omega

theorem results_tmp4 {fn : Func} {t u v x : Tmp} (h : fn.results = #[.tmp t, .tmp u, .tmp v, .tmp x]) (tmps : Array Value) (P : Program) (w : World) :
    (results fn tmps).run P w = .ok (.tuple #[tmps.getD t undef, tmps.getD u undef, tmps.getD v undef, tmps.getD x undef]) w := by
  simp [results, h]

set_option maxRecDepth 100000 in
set_option maxHeartbeats 4000000 in
theorem unpack_none (w : World) (s : ByteArray) (hs : s.size < 4611686018427387904) (h : unpackM s.data.toList = none) :
    Calls Try.prog 50 #[.string s] w fun e w' => e = .returned (.tuple #[.int .i64 0, .int .i64 0, .slice none 0 0, .int .i64 6]) ∧ Below w.heap.size w w' := by
  cases hd : decM s.data.toList with
  | none =>
    have HD := decode_none w s hs hd
    clear hd h
    go_enter Try.func50, Try.ntmps50
    go_wp2_with (go_at_call 61; refine HD.mono ?_; rintro en w2 ⟨rfl, hb2⟩)
    refine bodyPost_ret (results_tmp4 rfl _ _ _) rfl ⟨rfl, ?_⟩
    exact hb2.alloc hb2.size _
  | some q =>
    obtain ⟨v, e, rs⟩ := q
    have HD := decode_some w s v e rs hd
    have hok := decM_ok hd
    have hne : packM v e rs ≠ (s.data.toList, 0) := by
      unfold unpackM at h
      rw [hd] at h
      intro hp
      simp [hp] at h
    have HP : ∀ (w3 : World) (a : Option Addr) (cap : Nat) (base : Nat), w3.ownsRow base 43 3 (.slice a rs.length cap) rs.length (segCells rs) → Calls Try.prog 43 #[.int .i64 v, .int .i64 e, .slice a rs.length cap] w3 fun en w' => en = .returned (.tuple #[.string (mk (packM v e rs).1), .int .i64 (packM v e rs).2]) ∧ Below w3.heap.size w3 w' := by
      intro w3 a cap base hown
      obtain ⟨_, a1, b1, cap1, he, r1, r2, r3, _, _⟩ := SegsAt_of_own hown
      cases he
      exact pack_any w3 v e a b1 0 cap rs r1 r2 hok.1 (fun h => (r3 h).1) (by omega)
    have hne2 : (packM v e rs).2 = 0 → ¬ (mk (packM v e rs).1).toList = s.toList := by
      intro h0 h1
      apply hne
      refine Prod.ext ?_ h0
      have h2 : mk (packM v e rs).1 = s := ba_ext h1
      rw [← h2, mk_data]
    clear hd h hne hok
    obtain ⟨r1, hr1⟩ : ∃ r, r = (packM v e rs).1 := ⟨_, rfl⟩
    obtain ⟨r2, hr2⟩ : ∃ r, r = (packM v e rs).2 := ⟨_, rfl⟩
    rw [← hr1, ← hr2] at HP hne2
    clear hr1 hr2
    generalize mk r1 = q1 at *
    by_cases h0 : r2 = 0
    · have hn := hne2 h0
      subst h0
      have hn' : (q1.toList == s.toList) = false := by simpa using hn
      go_enter Try.func50, Try.ntmps50
      go_wp2_with (first
        | (go_at_call 61; refine HD.mono ?_; rintro en w2 ⟨a, cap, rfl, hown, hb2⟩)
        | (go_at_call 43; refine (HP _ a cap _ (hown.alloc _)).mono ?_; rintro en w3 ⟨rfl, hb3⟩))
      refine bodyPost_ret (results_tmp4 rfl _ _ _) rfl ⟨rfl, ?_⟩
      exact (hb2.alloc hb2.size _).trans (hb3.mono (by have := hb2.size; simp; omega))
    · have h0' : (r2 == 0) = false := by simpa using h0
      go_enter Try.func50, Try.ntmps50
      go_wp2_with (first
        | (go_at_call 61; refine HD.mono ?_; rintro en w2 ⟨a, cap, rfl, hown, hb2⟩)
        | (go_at_call 43; refine (HP _ a cap _ (hown.alloc _)).mono ?_; rintro en w3 ⟨rfl, hb3⟩))
      refine bodyPost_ret (results_tmp4 rfl _ _ _) rfl ⟨rfl, ?_⟩
      exact (hb2.alloc hb2.size _).trans (hb3.mono (by have := hb2.size; simp; omega))

set_option maxRecDepth 100000 in
set_option maxHeartbeats 4000000 in
theorem unpack_some (w : World) (s : ByteArray) (v e : Int) (rs : List Seg) (h : unpackM s.data.toList = some (v, e, rs)) :
    Calls Try.prog 50 #[.string s] w fun en w' => ∃ (a : Option Addr) (cap : Nat), en = .returned (.tuple #[.int .i64 v, .int .i64 e, .slice a rs.length cap, .int .i64 0]) ∧ w'.ownsRow w.heap.size 43 3 (.slice a rs.length cap) rs.length (segCells rs) ∧ Below w.heap.size w w' := by
  unfold unpackM at h
  cases hd : decM s.data.toList with
  | none => rw [hd] at h; cases h
  | some q =>
    obtain ⟨v', e', rs'⟩ := q
    rw [hd] at h
    dsimp only at h
    split at h
    · rename_i hp
      simp only [Option.some.injEq, Prod.mk.injEq] at h
      obtain ⟨rfl, rfl, rfl⟩ := h
      have HD := decode_some w s v' e' rs' hd
      have hok := decM_ok hd
      have HP : ∀ (w3 : World) (a : Option Addr) (cap : Nat) (base : Nat), w3.ownsRow base 43 3 (.slice a rs'.length cap) rs'.length (segCells rs') → Calls Try.prog 43 #[.int .i64 v', .int .i64 e', .slice a rs'.length cap] w3 fun en w' => en = .returned (.tuple #[.string s, .int .i64 0]) ∧ Below w3.heap.size w3 w' := by
        intro w3 a cap base hown
        obtain ⟨_, a1, b1, cap1, he, r1, r2, r3, _, _⟩ := SegsAt_of_own hown
        cases he
        have := pack_any w3 v' e' a b1 0 cap rs' r1 r2 hok.1 (fun h => (r3 h).1) (by omega)
        rw [hp] at this
        dsimp only at this
        rwa [mk_list] at this
      clear hd hp hok
      go_enter Try.func50, Try.ntmps50
      go_wp2_with (first
        | (go_at_call 61; refine HD.mono ?_; rintro en w2 ⟨a, cap, rfl, hown, hb2⟩)
        | (go_at_call 43; refine (HP _ a cap _ (hown.alloc _)).mono ?_; rintro en w3 ⟨rfl, hb3⟩; obtain ⟨_, q0, q1, q2, fz⟩ := three_cells hb3 (heap_alloc_new w2 _)))
      go_region
      all_goals go_wp2
      refine bodyPost_ret (results_tmp4 rfl _ _ _) rfl ⟨a, cap, rfl, ?_, ?_⟩
      · exact World.ownsRow.drew (ownsRow_below (hown.alloc _) hb3)
      · exact ((hb2.alloc hb2.size _).trans (hb3.mono (by have := hb2.size; simp; omega))).drew
    · cases h
end Go.Proofs.Ytcokahccbjdeaaa
