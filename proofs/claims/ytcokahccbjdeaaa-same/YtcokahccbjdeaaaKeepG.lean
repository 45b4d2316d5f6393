import Derived.Test.YtcokahccbjdeaaaKeepE
namespace Go.Proofs.Ytcokahccbjdeaaa
open Go.RowKit

/-- a slice of whole numbers that came in -/
structure IntsAt (w : World) (a : Option Addr) (len cap : Nat) (zs : List Int) : Prop where
  len1 : len ≤ zs.length
  lenm : len < 4611686018427387904
  wf : ∀ n ∈ zs, -9223372036854775808 ≤ n ∧ n < 9223372036854775808
  cells : ∀ i, i < len → ∃ b o, a = some ⟨b, o, none⟩ ∧ w.cell? ⟨b, o + i, none⟩ = some (.int .i64 (zs.getD i 0)) ∧ b < w.heap.size

theorem IntsAt.kept {w w' : World} {a : Option Addr} {len cap : Nat} {zs : List Int} (h : IntsAt w a len cap zs) (hb : Below w.heap.size w w') : IntsAt w' a len cap zs :=
  ⟨h.len1, h.lenm, h.wf, fun i hi => by
    obtain ⟨b, o, h1, h2, h3⟩ := h.cells i hi
    exact ⟨b, o, h1, (hb.cell (p := ⟨b, o + i, none⟩) h3).trans h2, Nat.lt_of_lt_of_le h3 hb.size⟩⟩

set_option maxRecDepth 100000 in
theorem raw_any (w : World) (a : Option Addr) (len cap : Nat) (zs : List Int) (i : Nat) (_hi : i < 1000) (h : IntsAt w a len cap zs) :
    Calls Try.prog 52 #[.slice a len cap, .int .i64 i] w fun e w' => ∃ x : Int, e = .returned (.int .i64 x) ∧ -9223372036854775808 ≤ x ∧ x < 9223372036854775808 ∧ w' = w := by
  have hlm := h.lenm
  by_cases hlt : i < len
  · obtain ⟨b, o, rfl, hc, _⟩ := h.cells i hlt
    have hx := h.wf (zs.getD i 0) (by
      rw [List.getD_eq_getElem?_getD, List.getElem?_eq_getElem (by have := h.len1; omega)]
      exact List.getElem_mem _)
    generalize zs.getD i 0 = x at *
    have hltI : (i : Int) < (len : Int) := by omega
    clear h
    go_enter Try.func52, Try.ntmps52
    go_wp2
    go_ret
    exact ⟨x, rfl, hx.1, hx.2, rfl⟩
  · have hltI : ¬ (i : Int) < (len : Int) := by omega
    clear h
    go_enter Try.func52, Try.ntmps52
    go_wp2
    go_ret
    exact ⟨0, rfl, by omega, by omega, rfl⟩

theorem raw_at (w : World) (a : Option Addr) (len cap : Nat) (zs : List Int) (i : Nat) (I : Int) (hI : I = (i : Int)) (hi : i < 1000) (h : IntsAt w a len cap zs) :
    Calls Try.prog 52 #[.slice a len cap, .int .i64 I] w fun e w' => ∃ x : Int, e = .returned (.int .i64 x) ∧ -9223372036854775808 ≤ x ∧ x < 9223372036854775808 ∧ w' = w := by
  subst hI; exact raw_any w a len cap zs i hi h
set_option maxRecDepth 100000 in
theorem pick_any (w : World) (c n : Int) (h0 : -9223372036854775808 ≤ c) (h1 : c < 9223372036854775808) (hn : 1 ≤ n) (hn1 : n ≤ 1073741824) :
    Calls Try.prog 26 #[.int .i64 c, .int .i64 n] w fun e w' => ∃ r : Int, e = .returned (.int .i64 r) ∧ 0 ≤ r ∧ r < n ∧ w' = w := by
  have hn0 : ¬ n = 0 := by omega
  by_cases hc : c < 0
  · have hm0 : 0 ≤ (-(c + 1)) % n := Int.emod_nonneg _ (by omega)
    have hm1 : (-(c + 1)) % n < n := Int.emod_lt_of_pos _ (by omega)
    go_enter Try.func26, Try.ntmps26
    go_wp2
    go_ret
    have e : -((c + 1).tmod n) = (-(c + 1)) % n := by rw [← Int.neg_tmod, Int.tmod_eq_emod_of_nonneg (by omega)]
    exact ⟨_, rfl, by rw [e]; exact hm0, by rw [e]; exact hm1, rfl⟩
  · have hm0 : 0 ≤ c % n := Int.emod_nonneg _ (by omega)
    have hm1 : c % n < n := Int.emod_lt_of_pos _ (by omega)
    go_enter Try.func26, Try.ntmps26
    go_wp2
    go_ret
    exact ⟨c % n, rfl, hm0, hm1, rfl⟩

set_option maxRecDepth 100000 in
set_option maxHeartbeats 2000000 in
theorem bytes_any (w : World) (s : ByteArray) (i n : Nat) (hs : s.size < 4611686018427387904) (hi : i ≤ 1000) (hn : n ≤ 1000) :
    Calls Try.prog 53 #[.string s, .int .i64 i, .int .i64 n] w fun e w' => ∃ d : ByteArray, e = .returned (.string d) ∧ d.size = n ∧ Below w.heap.size w w' := by
  have hmk := make_row w .i64 .i64 n (by omega)
  have hnI : (n : Int) ≤ 1000 := by omega
  have hiI : (i : Int) ≤ 1000 := by omega
  go_enter Try.func53, Try.ntmps53
  go_wp2
  go_loopw [8] (fun k wr => ∃ q : Nat, q ≤ n ∧ k = .int .i64 q ∧ (∃ l : List UInt8, l.length = n ∧ wr.heap[w.heap.size]? = some (.cells (bytesV l) 5 (0, 0))) ∧ Below w.heap.size w wr) (fun k _ => n - (intOf k).toNat)
  case atStart => exact ⟨0, by omega, rfl, ⟨List.replicate n 0, by simp, by rw [heap_alloc_new]⟩, (Below.refl _ _).alloc (Nat.le_refl _) _⟩
  case round =>
    obtain ⟨q, hq, rfl, ⟨l, hl, hrow⟩, hbel⟩ := hrel
    by_cases hlt : q < n
    · have hltI : (q : Int) < (n : Int) := by omega
      by_cases hs0 : s.size = 0
      · have hs0' : (s.size : Int) = 0 := by omega
        go_wp2
        go_roundw
        case rel => exact ⟨q + 1, by omega, by go_num, ⟨l, hl, hrow⟩, hbel⟩
        case measure => simp [intOf]; omega
      · have hs0' : (0 : Int) < (s.size : Int) := by omega
        have hsn : ¬ (s.size : Int) = 0 := by omega
        have hm1 : ((i : Int) + q) % s.size < s.size := Int.emod_lt_of_pos _ (by omega)
        have hm0 : 0 ≤ ((i : Int) + q) % s.size := Int.emod_nonneg _ (by omega)
        have hmN : (i + q) % s.size < s.size := Nat.mod_lt _ (by omega)
        have hf : ∀ o, wr.frozen? ⟨w.heap.size, o, none⟩ = false := fun o => free_of_heap hrow
        have hc : wr.cell? ⟨w.heap.size, q, none⟩ = some (.int .u8 ((l.getD q 0).toNat : Int)) := by rw [cell_of_heap hrow]; exact bytesV_get l q (by omega)
        have HR : Hid (wr.heap[w.heap.size]? = some (.cells (bytesV l) 5 (0, 0))) := hrow
        generalize (l.getD q 0).toNat = old at *
        clear hrow
        go_wp2
        go_roundw
        case rel =>
          refine ⟨q + 1, by omega, by go_num, ⟨l.set q (s[(i + q) % s.size]), by simpa using hl, ?_⟩, hbel.setCell (Nat.le_refl _) _⟩
          rw [heap_setCell_at _ _ _ _ _ _ _ HR.out, bytesV_set]
        case measure => simp [intOf]; omega
    · have hqn : q = n := by omega
      subst hqn
      have hcv := conv_row wr w.heap.size 0 q q l _ hrow (by omega)
      rw [List.drop_zero, List.take_of_length_le (by omega)] at hcv
      obtain ⟨dd, hdd⟩ : ∃ dd : ByteArray, dd = ⟨l.toArray⟩ := ⟨_, rfl⟩
      have hds : dd.size = q := by rw [hdd]; show l.toArray.size = q; simp [hl]
      rw [← hdd] at hcv
      clear hdd hrow
      go_wp2
      go_ret
      exact ⟨dd, rfl, hds, hbel⟩

theorem bytes_at (w : World) (s : ByteArray) (I N : Int) (hs : s.size < 4611686018427387904) (hi0 : 0 ≤ I) (hi : I ≤ 1000) (hn0 : 0 ≤ N) (hn : N ≤ 1000) :
    Calls Try.prog 53 #[.string s, .int .i64 I, .int .i64 N] w fun e w' => ∃ d : ByteArray, e = .returned (.string d) ∧ (d.size : Int) = N ∧ Below w.heap.size w w' := by
  obtain ⟨i, rfl⟩ : ∃ i : Nat, I = i := ⟨I.toNat, by omega⟩
  obtain ⟨n, rfl⟩ : ∃ n : Nat, N = n := ⟨N.toNat, by omega⟩
  refine (bytes_any w s i n hs (by omega) (by omega)).mono ?_
  rintro e w' ⟨d, rfl, hd, hb⟩
  exact ⟨d, rfl, by omega, hb⟩

/-- what 'pieces' makes: a few segments, one behind the other -/
structure Pieces (P : List Seg) (top : Int) : Prop where
  size : ∀ s ∈ P, 0 ≤ s.addr ∧ 1 ≤ s.size ∧ s.size ≤ 12 ∧ (s.data.size : Int) ≤ s.size ∧ s.addr + s.size ≤ top
  order : P.Pairwise fun s t => s.addr + s.size ≤ t.addr

theorem Pieces.snoc {P : List Seg} {top : Int} (h : Pieces P top) (x z : Int) (d : ByteArray) (h0 : 0 ≤ top) (hx : top ≤ x) (hz1 : 1 ≤ z) (hz2 : z ≤ 12) (hd : (d.size : Int) ≤ z) : Pieces (P ++ [⟨x, z, d⟩]) (x + z) := by
  refine ⟨?_, ?_⟩
  · intro s hs
    rcases List.mem_append.1 hs with hs | hs
    · have := h.size s hs; exact ⟨this.1, this.2.1, this.2.2.1, this.2.2.2.1, by omega⟩
    · simp only [List.mem_singleton] at hs
      subst hs
      exact ⟨by dsimp only; omega, hz1, hz2, hd, by dsimp only; omega⟩
  · rw [List.pairwise_append]
    refine ⟨h.order, by simp, ?_⟩
    intro s hs t ht
    simp only [List.mem_singleton] at ht
    subst ht
    have := (h.size s hs).2.2.2.2
    dsimp only; omega

set_option maxRecDepth 100000 in
set_option maxHeartbeats 4000000 in
theorem pieces_any (w : World) (a : Option Addr) (len cap : Nat) (zs : List Int) (s : ByteArray) (hs : s.size < 4611686018427387904) (h : IntsAt w a len cap zs) :
    Calls Try.prog 25 #[.slice a len cap, .string s] w fun e w' => ∃ (P : List Seg) (a1 : Option Addr) (cap1 : Nat), e = .returned (.slice a1 P.length cap1) ∧ w'.ownsRow w.heap.size 43 3 (.slice a1 P.length cap1) P.length (segCells P) ∧ Pieces P 120 ∧ 1 ≤ P.length ∧ P.length ≤ 6 ∧ Below w.heap.size w w' := by
  obtain ⟨i0, hi, hz0, hz1, hz2⟩ := info_parts Try.info43
  have R0 := raw_any w a len cap zs 0 (by omega) h
  have t1 : True := trivial
  go_enter Try.func25, Try.ntmps25
  go_wp2_with (first
    | (go_at_call 52; refine R0.mono ?_; rintro en w1 ⟨x0, rfl, hx0, hx1, rfl⟩)
    | (go_at_call 26; refine (pick_any _ x0 6 hx0 hx1 (by omega) (by omega)).mono ?_; rintro en w2 ⟨n6, rfl, hn0, hn6, rfl⟩))
  go_loopw [6, 7, 8, 9, 10] (fun v t i _ _ wr => ∃ k : Nat, (k : Int) ≤ 1 + n6 ∧ i = .int .i64 k ∧ (∃ (P : List Seg) (top : Int), t = .int .i64 top ∧ 0 ≤ top ∧ top ≤ 20 * k ∧ Hid (P.length = k) ∧ Hid (Pieces P top) ∧ wr.ownsRow w2.heap.size 43 3 v P.length (segCells P)) ∧ Below w2.heap.size w2 wr) (fun _ _ i _ _ _ => 10 - (intOf i).toNat)
  case atStart => exact ⟨0, by omega, rfl, ⟨[], 0, rfl, by omega, by omega, rfl, ⟨by simp, by simp⟩, World.ownsRow_nil _ _ _ _⟩, Below.refl _ _⟩
  case round =>
    obtain ⟨k, hk, rfl, ⟨P, top, rfl, ht0, ht1, hPl, hPP, hown⟩, hbel⟩ := hrel
    by_cases hlt : (k : Int) < 1 + n6
    · have hI := h.kept hbel
      have R1 := raw_at wr a len cap zs (3 * k + 1) (3 * (k : Int) + 1) (by omega) (by omega) hI
      have R2 := raw_at wr a len cap zs (3 * k + 2) (3 * (k : Int) + 2) (by omega) (by omega) hI
      have R3 := raw_at wr a len cap zs (3 * k + 3) (3 * (k : Int) + 3) (by omega) (by omega) hI
      have hPl6 : P.length + 1 ≤ 7 := by have := hPl.out; omega
      clear hI h R0
      go_wp2_with (first
        | (go_at_call 52; refine R1.mono ?_; rintro en wa ⟨y1, rfl, ha0, ha1, rfl⟩; clear R1)
        | (go_at_call 26; refine (pick_any _ y1 9 ha0 ha1 (by omega) (by omega)).mono ?_; rintro en wb ⟨g9, rfl, hg0, hg9, rfl⟩; clear ha0 ha1)
        | (go_at_call 52; refine R2.mono ?_; rintro en wc ⟨y2, rfl, hc0, hc1, rfl⟩; clear R2)
        | (go_at_call 26; refine (pick_any _ y2 12 hc0 hc1 (by omega) (by omega)).mono ?_; rintro en wd ⟨s12, rfl, hs0, hs12, rfl⟩; clear hc0 hc1)
        | (go_at_call 52; refine R3.mono ?_; rintro en we ⟨y3, rfl, he0, he1, rfl⟩; clear R3)
        | (go_at_call 26; refine (pick_any _ y3 _ he0 he1 ?_ ?_).mono ?_; omega; omega; rintro en wf ⟨dd, rfl, hd0, hd1, rfl⟩; clear he0 he1)
        | (go_at_call 53; refine (bytes_at _ s _ _ hs ?_ ?_ ?_ ?_).mono ?_; omega; omega; omega; omega; rintro en wg ⟨dat, rfl, hdat, hbg⟩)
        | (at_builtin; refine wpList_append_own _ rfl _ _ 23 rfl w2.heap.size 43 i0 _ 3 32 Try.underlying23 hi hz0 hz1 hz2 rfl (by decide) _ _ _ rfl ((ownsRow_below hown hbg).alloc _) ⟨wg.heap.size, 0, none⟩ 1 1 [.int .i64 (top + g9), .int .i64 (1 + s12), .string dat] rfl rfl ?c1 ?c2 ?c3 ?c4 ?c5 ?_))
      case c1 => exact cells_new1 wg _ _ _ rfl
      case c2 => intro u hu; simp at hu; rcases hu with rfl | rfl | rfl <;> rfl
      case c3 => unfold maxLen; omega
      case c4 => omega
      case c5 => have := hbel.size; have := hbg.size; simp; omega
      intro v' w4 hown4 hgr4 _
      have hbl4 : Below w2.heap.size w2 w4 := by
        refine ((hbel.trans (hbg.mono hbel.size)).alloc ?_ _).grown hgr4 ?_ (own_lt hown)
        · have := hbel.size; have := hbg.size; omega
        · have := hbel.size; have := hbg.size; simp; omega
      have hPP2 : Hid (Pieces (P ++ [⟨top + g9, 1 + s12, dat⟩]) (top + g9 + (1 + s12))) := hPP.out.snoc _ _ _ ht0 (by omega) (by omega) (by omega) (by omega)
      have hsg : segCells P ++ [.int .i64 (top + g9), .int .i64 (1 + s12), .string dat] = segCells (P ++ [⟨top + g9, 1 + s12, dat⟩]) := by rw [segCells_append]; rfl
      rw [hsg] at hown4
      have HOW : Hid (w4.ownsRow w2.heap.size 43 3 v' (P.length + 1) (segCells (P ++ [⟨top + g9, 1 + s12, dat⟩]))) := hown4
      clear hown4 hgr4 hown hbel hbg hsg
      go_wp2
      go_roundw
      case rel => exact ⟨k + 1, by omega, by go_num, ⟨P ++ [⟨top + g9, 1 + s12, dat⟩], top + g9 + (1 + s12), rfl, by omega, by omega, by unfold Hid; rw [List.length_append, hPl.out]; rfl, hPP2, by rw [List.length_append]; exact HOW.out⟩, hbl4⟩
      case measure => simp [intOf]; omega
    · go_wp2
      go_ret
      obtain ⟨_, a1, b1, cap1, hv, _⟩ := SegsAt_of_own hown
      subst hv
      refine ⟨P, a1, cap1, rfl, hown, ?_, by have := hPl.out; omega, by have := hPl.out; omega, hbel⟩
      have hp := hPP.out
      exact ⟨fun s hs => ⟨(hp.size s hs).1, (hp.size s hs).2.1, (hp.size s hs).2.2.1, (hp.size s hs).2.2.2.1, by have := (hp.size s hs).2.2.2.2; have := hPl.out; omega⟩, hp.order⟩
end Go.Proofs.Ytcokahccbjdeaaa
