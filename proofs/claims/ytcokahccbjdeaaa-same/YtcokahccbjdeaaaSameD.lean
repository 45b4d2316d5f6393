import Derived.Test.YtcokahccbjdeaaaSameC
namespace Go.Proofs.Ytcokahccbjdeaaa
open Go.RowKit

/-- what Same asks of the images of a list of segments -/
structure SameWays (v x : Int) (P : List Seg) (t : ByteArray) : Prop where
  pack : ∀ (w : World) a cap, SegsIn w a P → Calls Try.prog 14 #[.int .i64 v, .int .i64 x, .slice a P.length cap] w fun en w' => en = .returned (.tuple #[.string t, .int .i64 0]) ∧ Below w.heap.size w w'
  ne : t.toList.isEmpty = false
  half : ∀ (w : World) a cap Q, Halved P Q → Q.length ≤ 7 → SegsIn w a Q → Calls Try.prog 14 #[.int .i64 v, .int .i64 x, .slice a Q.length cap] w fun en w' => en = .returned (.tuple #[.string t, .int .i64 0]) ∧ Below w.heap.size w w'
  next : ∃ t2, ¬ ByteArray.toList t2 = t.toList ∧ ∀ (w : World) a cap, SegsIn w a P → Calls Try.prog 14 #[.int .i64 ((v + 1) % 65536), .int .i64 x, .slice a P.length cap] w fun en w' => en = .returned (.tuple #[.string t2, .int .i64 0]) ∧ Below w.heap.size w w'
  other : ∀ k (hk : k < P.length) (d : ByteArray), (d.size ≤ 1 ∨ d.size ≤ P[k].data.size) → d.data.toList.getD 0 0 ≠ P[k].data.data.toList.getD 0 0 → ∃ t3, ¬ ByteArray.toList t3 = t.toList ∧ ∀ (w : World) a cap, SegsIn w a (P.set k ⟨P[k].addr, P[k].size, d⟩) → Calls Try.prog 14 #[.int .i64 v, .int .i64 x, .slice a P.length cap] w fun en w' => en = .returned (.tuple #[.string t3, .int .i64 0]) ∧ Below w.heap.size w w'

theorem sameWays_of {v : Int} {P : List Seg} (hP : Pieces P 120) (h1 : 0 < P.length) (h6 : P.length ≤ 6) (hv0 : 0 ≤ v) (hv1 : v < 65536) : ∃ t, SameWays v P[0].addr P t := by
  obtain ⟨m, hl, hf, hsz⟩ := pieces_lay hP h6
  have hM : Made v P[0].addr m := made_of hf hl hsz h6 hv0 (by omega) (List.getElem_mem h1) rfl
  refine ⟨mk (textOf v P[0].addr (runsOf m)), ?_, ?_, ?_, ?_, ?_⟩
  · exact fun w a cap hs => pack_in w v _ a cap P m hs hf hl h1 (by omega) hM
  · rw [ByteArray.toList_eq, mk_data]; rfl
  · intro w a cap Q hQ hQ7 hs
    refine pack_in w v _ a cap Q m hs hQ.fit (hQ.lay hl) ?_ (by omega) hM
    rcases Nat.eq_zero_or_pos Q.length with h0 | h0
    · exfalso
      have e := List.length_eq_zero_iff.1 h0
      have h2 := hQ.cover P[0].addr.toNat
      rw [e, coverN_lay hl, hM.ce] at h2
      simp [coverN] at h2
    · exact h0
  · have hM2 : Made ((v + 1) % 65536) P[0].addr m := made_of hf hl hsz h6 (by omega) (by omega) (List.getElem_mem h1) rfl
    refine ⟨mk (textOf ((v + 1) % 65536) P[0].addr (runsOf m)), ?_, ?_⟩
    · intro e
      rw [ByteArray.toList_eq, ByteArray.toList_eq, mk_data, mk_data] at e
      have := (text_inj hM2 hM e).1
      omega
    · exact fun w a cap hs => pack_in w _ _ a cap P m hs hf hl h1 (by omega) hM2
  · intro k hk d hd hne
    have hs0 := hP.size P[k] (List.getElem_mem hk)
    have hP' := pieces_set hP k hk d (by omega)
    have hlen : (P.set k ⟨P[k].addr, P[k].size, d⟩).length = P.length := List.length_set
    obtain ⟨m', hl', hf', hsz'⟩ := pieces_lay hP' (by omega)
    have hx : ((P.set k ⟨P[k].addr, P[k].size, d⟩)[0]'(by omega)).addr = P[0].addr := by
      rw [List.getElem_set]
      split
      · rename_i e; subst e; rfl
      · rfl
    have hM' : Made v P[0].addr m' := made_of hf' hl' hsz' (by omega) hv0 (by omega) (List.getElem_mem (by omega)) hx.symm
    have hmm : m ≠ m' := other_mem (s := P[k]) (s' := ⟨P[k].addr, P[k].size, d⟩) hl hl' (List.getElem_mem hk) (List.mem_set hk _) rfl hs0.1 hs0.2.1 hs0.2.1 hne
    refine ⟨mk (textOf v P[0].addr (runsOf m')), ?_, ?_⟩
    · intro e
      rw [ByteArray.toList_eq, ByteArray.toList_eq, mk_data, mk_data] at e
      exact hmm (text_inj hM' hM e).2.symm
    · intro w a cap hs
      have := pack_in w v P[0].addr a cap _ m' hs hf' hl' (by omega) (by omega) hM'
      rwa [hlen] at this

theorem segs_stored {w : World} {g : Nat} {cur : Array Value} {P : List Seg} (h : w.heap[g]? = some (.cells cur 43 (0, 0))) (hc : cur.toList.take (P.length * 3) = segCells P) (k : Nat) (hk : k < P.length) (d : ByteArray) :
    SegsIn (w.setCell ⟨g, k * 3 + 2, none⟩ (.string d)) (some ⟨g, 0, none⟩) (P.set k ⟨P[k].addr, P[k].size, d⟩) := by
  have hh : (w.setCell ⟨g, k * 3 + 2, none⟩ (.string d)).heap[g]? = some (.cells (cur.setIfInBounds (k * 3 + 2) (.string d)) 43 (0, 0)) := heap_setCell_at _ _ _ _ _ _ _ h
  refine ⟨g, 0, fun _ => rfl, segs_of_cur hh ?_, fun _ => (Array.getElem?_eq_some_iff.1 hh).1⟩
  rw [Array.toList_setIfInBounds, List.take_set, List.length_set, hc, segCells_set P k hk d]

set_option maxRecDepth 1000000 in
set_option maxHeartbeats 8000000 in
theorem same_law (w : World) (version : Int) (a : Option Addr) (len cap : Nat) (zs : List Int) (s : ByteArray) (which wh : Int) (hv0 : -9223372036854775808 ≤ version) (hv1 : version < 9223372036854775808) (hp0 : -9223372036854775808 ≤ which) (hp1 : which < 9223372036854775808) (hy0 : -9223372036854775808 ≤ wh) (hy1 : wh < 9223372036854775808) (hs : s.size < 4611686018427387904) (h : IntsAt w a len cap zs) :
    Calls Try.prog 8 #[.int .i64 version, .slice a len cap, .string s, .int .i64 which, .int .i64 wh] w fun e w' => e = .returned (.bool true) ∧ Below w.heap.size w w' := by
  have HP := pieces_any w a len cap zs s hs h
  clear h
  go_enter Try.func8, Try.ntmps8
  go_upto_region 9 with (first
    | (go_at_call 25; refine HP.mono ?_; rintro en w1 ⟨P, a1, cap1, rfl, hown, hPP, hl1, hl6, hb1⟩; clear HP; have S1 := SegsIn.of_own hown; have HPP : Hid (Pieces P 120) := hPP; clear hPP; have t1 : True := trivial)
    | (go_at_call 26; have _t := t1; refine (pick_any _ version 65536 hv0 hv1 (by omega) (by omega)).mono ?_; rintro en wv ⟨v, rfl, hv2, hv3, rfl⟩; clear hv0 hv1 t1; have t2 : True := trivial
       have hkl : 0 < P.length := by omega
       obtain ⟨t, T⟩ := sameWays_of HPP.out hkl hl6 hv2 hv3
       obtain ⟨b, o, rfl, hc, _⟩ := S1.nth 0 hkl; rw [Nat.zero_mul, Nat.add_zero] at hc
       obtain ⟨g, cur, hgo, hg2, hh2, hs2, hn2, hm2, hx2⟩ := own_row hown (by omega)
       have T' : Hid (SameWays v P[0].addr P t) := T; have htne := T.ne
       generalize P[0].addr = x at *; clear T hown; obtain ⟨rfl, rfl⟩ : b = g ∧ o = 0 := by cases hgo; exact ⟨rfl, rfl⟩
       clear hgo; have HX2 : Hid (cur.toList.take (P.length * 3) = segCells P) := hx2; clear hx2)
    | (go_at_call 26; have _t := t2; refine (pick_any _ which P.length hp0 hp1 (by omega) (by omega)).mono ?_; rintro en wp ⟨k, rfl, hk0, hk1, rfl⟩; clear hp0 hp1 t2; obtain ⟨k, rfl⟩ := Int.eq_ofNat_of_zero_le hk0; have hk : k < P.length := Int.ofNat_lt.1 hk1; have t3 : True := trivial)
    | (go_at_call 14; have _t := t3; refine (T'.out.pack _ _ _ S1).mono ?_; rintro en w2 ⟨rfl, hb2⟩; clear t3; have t4 : True := trivial; have S2 := S1.kept hb2)
    | (go_at_call 31; refine (halves_any _ _ _ P k wh hy0 hy1 S2 HPP.out hl1 hl6).mono ?_; rintro en w3 ⟨Q, a3, cap3, rfl, SQ, hQ, hQ7, hb3⟩; have HQ : Hid (Halved P Q) := hQ; clear hQ hy0 hy1)
    | (go_at_call 14; have _t := t4; refine (T'.out.half _ _ _ Q HQ.out hQ7 SQ).mono ?_; rintro en w4 ⟨rfl, hb4⟩; clear t4))
  have hb14 : Below wp.heap.size wp w4 := (hb2.trans (hb3.mono hb2.size)).trans (hb4.mono (Nat.le_trans hb2.size hb3.size))
  have S4 := S1.kept hb14
  have hblt := (Array.getElem?_eq_some_iff.1 hh2).1
  have hh4 := (hb14.block b hblt).trans hh2
  obtain ⟨dd, hdd⟩ : ∃ dd, dd = P[k].data := ⟨_, rfl⟩
  have HDD : Hid (dd = P[k].data) := hdd
  have hcur : cur[k * 3 + 2]? = some (.string dd) := by
    obtain ⟨b', o', he, _, _, h3, _⟩ := S1.nth k hk
    cases he
    rw [Nat.zero_add, cell_of_heap hh2] at h3
    rw [h3, hdd]
  have hdd12 : dd.size ≤ 12 := by
    have := HPP.out.size P[k] (List.getElem_mem hk)
    rw [hdd]; omega
  obtain ⟨t2, ht2, N2⟩ := T'.out.next
  have OW := fun wx => otherwise_any wx dd hdd12
  have hmod : (v + 1).tmod 65536 = (v + 1) % 65536 := Int.tmod_eq_emod_of_nonneg (by omega)
  have hkI : (k : Int) < (P.length : Int) := by omega
  clear hdd hc HPP S2 S1
  have t5 : True := trivial
  go_wp2_with (first
    | (go_at_call 14; have _t := t5; refine (N2 _ _ _ S4).mono ?_; rintro en w5 ⟨rfl, hb5⟩; clear t5; have t6 : True := trivial
       have hh5 := (hb5.block b (Array.getElem?_eq_some_iff.1 hh4).1).trans hh4; have hcd : w5.cell? ⟨b, k * 3 + 2, none⟩ = some (.string dd) := (cell_of_heap hh5).trans hcur)
    | (go_at_call 32; refine (OW _).mono ?_; rintro en w6 ⟨d', rfl, hd1, hd2, hb6⟩; have hh6 := (hb6.block b (Array.getElem?_eq_some_iff.1 hh5).1).trans hh5
       have hcd6 : w6.cell? ⟨b, k * 3 + 2, none⟩ = some (.string dd) := (cell_of_heap hh6).trans hcur; have hfz6 : w6.frozen? ⟨b, k * 3 + 2, none⟩ = false := free_of_heap hh6
       rw [HDD.out] at hd1 hd2; obtain ⟨t3, ht3, N3⟩ := T'.out.other k hk d' hd1 hd2
       have S6 := segs_stored hh6 HX2.out k hk d')
    | (go_at_call 14; have _t := t6; refine (N3 _ _ _ S6).mono ?_; rintro en w7 ⟨rfl, hb7⟩; clear t6))
  go_ret
  refine ⟨?_, ?_⟩
  · show Ending.returned (.bool (!t2.toList == t.toList && !t3.toList == t.toList)) = _
    rw [beq_false_of_ne ht2, beq_false_of_ne ht3]; rfl
  have k4 := hb1.trans (hb14.mono hb1.size)
  have k5 := k4.trans (hb5.mono k4.size)
  have k6 := k5.trans (hb6.mono k5.size)
  have k6' := k6.setCell (p := ⟨b, k * 3 + 2, none⟩) hg2 (.string d')
  exact k6'.trans (hb7.mono k6'.size)
end Go.Proofs.Ytcokahccbjdeaaa
