import Derived.Test.YtcokahccbjdeaaaTurnA
namespace Go.Proofs.Ytcokahccbjdeaaa
open Go.RowKit

theorem xor_u8 (x : UInt8) (r : Int) (h0 : 0 ≤ r) (h1 : r < 255) : ∃ y : UInt8, y ≠ x ∧ bits .xor .u8 (x.toNat : Int) (1 + r) = (y.toNat : Int) := by
  obtain ⟨n, rfl⟩ : ∃ n : Nat, r = n := ⟨r.toNat, by omega⟩
  have hn : (UInt8.ofNat (n + 1)).toNat = n + 1 := by rw [UInt8.toNat_ofNat']; omega
  refine ⟨x ^^^ UInt8.ofNat (n + 1), xor_ne _ _ ?_, ?_⟩
  · intro e
    rw [e] at hn
    have : (0 : UInt8).toNat = 0 := rfl
    omega
  · have e : (1 : Int) + (n : Int) = ((n + 1 : Nat) : Int) := by omega
    rw [e, u8_xor_nat _ _ x.toNat_lt (by omega), UInt8.toNat_xor, hn]
theorem turn_row {wz we : World} {l2 : List UInt8} {t : ByteArray} {k n2 : Nat} (hk : k < t.size) (rest : List UInt8) (r : Int) (h0 : 0 ≤ r) (h1 : r < 255) (HH : wz.heap[we.heap.size]? = some (.cells (bytesV l2) 5 (n2, n2 + 1))) (HS : ∀ y, l2.set k y = t.data.toList.set k y ++ rest) (hbz : Below we.heap.size we wz) :
    ∃ y : UInt8, y ≠ t[k] ∧ Hid ((wz.setCell ⟨we.heap.size, k, none⟩ (.int .u8 (bits .xor .u8 (t[k].toNat : Int) (1 + r)))).drew.heap[we.heap.size]? = some (.cells (bytesV (t.data.toList.set k y ++ rest)) 5 (n2, n2 + 1))) ∧ Below we.heap.size we (wz.setCell ⟨we.heap.size, k, none⟩ (.int .u8 (bits .xor .u8 (t[k].toNat : Int) (1 + r)))).drew := by
  obtain ⟨y, hy, e⟩ := xor_u8 t[k] r h0 h1
  rw [e]
  refine ⟨y, hy, ?_, (hbz.setCell (Nat.le_refl _) _).drew⟩
  show (wz.setCell _ _).heap[we.heap.size]? = _
  rw [heap_setCell_at _ _ _ _ _ _ _ HH, bytesV_set, HS]

set_option maxRecDepth 1000000 in
set_option maxHeartbeats 8000000 in
theorem turned_law (w : World) (version : Int) (a : Option Addr) (len cap : Nat) (zs : List Int) (s : ByteArray) (place turn : Int) (hv0 : -9223372036854775808 ≤ version) (hv1 : version < 9223372036854775808) (hp0 : -9223372036854775808 ≤ place) (hp1 : place < 9223372036854775808) (hy0 : -9223372036854775808 ≤ turn) (hy1 : turn < 9223372036854775808) (hs : s.size < 4611686018427387904) (h : IntsAt w a len cap zs) :
    Calls Try.prog 9 #[.int .i64 version, .slice a len cap, .string s, .int .i64 place, .int .i64 turn] w fun e w' => e = .returned (.bool true) ∧ Below w.heap.size w w' := by
  have HP := pieces_any w a len cap zs s hs h
  clear h
  go_enter Try.func9, Try.ntmps9
  go_upto_region 8 with (first
    | (go_at_call 25; refine HP.mono ?_; rintro en w1 ⟨P, a1, cap1, rfl, hown, hPP, hl1, hl6, hb1⟩; clear HP; obtain ⟨m, hl, hf, hsz⟩ := pieces_lay hPP hl6; have S1 := SegsIn.of_own hown; clear hown hPP)
    | (go_at_call 26; refine (pick_any _ version 65536 hv0 hv1 (by omega) (by omega)).mono ?_; rintro en wv ⟨v, rfl, hv2, hv3, rfl⟩; clear hv0 hv1; have t1 : True := trivial
       have hkl : 0 < P.length := by omega
       obtain ⟨b, o, rfl, hc, _⟩ := S1.nth 0 hkl; rw [Nat.zero_mul, Nat.add_zero] at hc; have hM : Made v P[0].addr m := made_of hf hl hsz hl6 hv2 (by omega) (List.getElem_mem hkl) rfl
       obtain ⟨t, T⟩ := tampered_of hM hl hf hl1 hl6; have T' : Hid (Tampered v P[0].addr P t) := T; have ht8 := T.lo; have ht120 := T.hi
       generalize P[0].addr = x at *; clear hM hf hl T; have hnil : ¬ (t.size : Int) = 0 := by omega)
    | (go_at_call 14; refine (T'.out.pack _ _ _ S1).mono ?_; rintro en w2 ⟨rfl, hb2⟩)
    | (go_at_call 26; have _t := t1; refine (pick_any _ place t.size hp0 hp1 (by omega) (by omega)).mono ?_; rintro en we ⟨k, rfl, hk0, hk1, rfl⟩; clear hp0 hp1 t1; obtain ⟨k, rfl⟩ : ∃ n : Nat, k = n := ⟨k.toNat, by omega⟩; have hk : k < t.size := by omega
       have hcv := run_bytes_of_string (P := Try.prog) we 9 49 5 t Try.underlying9 Try.underlying49 Try.underlying5
       generalize grownCap we t.size 0 5 = cp at hcv; rw [bytesRow_V] at hcv; obtain ⟨ob, hob⟩ : ∃ ob : Obj, ob = .cells (bytesV (t.data.toList ++ List.replicate (cp - t.size) 0)) 5 ((bytesV (t.data.toList ++ List.replicate (cp - t.size) 0)).size, (bytesV (t.data.toList ++ List.replicate (cp - t.size) 0)).size + 1) := ⟨_, rfl⟩; rw [← hob] at hcv; have HOB : Hid (ob = _) := hob; clear hob))
  obtain ⟨l2, hl2⟩ : ∃ l2, l2 = t.data.toList ++ List.replicate (cp - t.size) 0 := ⟨_, rfl⟩
  have hll : t.data.toList.length = t.size := rfl
  have hl2k : l2.getD k 0 = t[k] := by rw [hl2, List.getD_eq_getElem?_getD, List.getElem?_append_left (by omega), ← List.getD_eq_getElem?_getD, ba_getD t k hk]
  have hkl2 : k < l2.length := by rw [hl2, List.length_append]; omega
  have hset : ∀ y, l2.set k y = t.data.toList.set k y ++ List.replicate (cp - t.size) 0 := fun y => by rw [hl2, List.set_append_left _ _ (by omega)]
  obtain ⟨n2, hn2⟩ : ∃ n2, n2 = (bytesV l2).size := ⟨_, rfl⟩
  have hkn : k < n2 := by rw [hn2]; simp [bytesV]; omega
  have HOB2 : ob = .cells (bytesV l2) 5 (n2, n2 + 1) := by rw [HOB.out, ← hl2, ← hn2]
  have hheap : ((we.alloc ob).drew).heap[we.heap.size]? = some (.cells (bytesV l2) 5 (n2, n2 + 1)) := by
    rw [← HOB2]; exact heap_alloc_new we ob
  have hcell : ((we.alloc ob).drew).cell? ⟨we.heap.size, k, none⟩ = some (.int .u8 (t[k].toNat : Int)) := by
    rw [cell_of_heap hheap, bytesV_get l2 k hkl2, hl2k]
  have hfroz : ((we.alloc ob).drew).frozen? ⟨we.heap.size, k, none⟩ = false := by
    unfold World.frozen?
    rw [hheap]
    simp; omega
  have hbz : Below we.heap.size we ((we.alloc ob).drew) := ((Below.refl _ _).alloc (Nat.le_refl _) _).drew
  have HH : Hid (((we.alloc ob).drew).heap[we.heap.size]? = some (.cells (bytesV l2) 5 (n2, n2 + 1))) := hheap
  have HS : Hid (∀ y, l2.set k y = t.data.toList.set k y ++ List.replicate (cp - t.size) 0) := hset
  clear hset hheap HOB HOB2 hl2k hl2 hcv hn2
  generalize (we.alloc ob).drew = wz at *
  go_cut [16] (fun s16 wx => s16 = .slice (some ⟨we.heap.size, 0, none⟩) t.size cp ∧ ∃ y : UInt8, y ≠ t[k] ∧ Hid (wx.heap[we.heap.size]? = some (.cells (bytesV (t.data.toList.set k y ++ List.replicate (cp - t.size) 0)) 5 (n2, n2 + 1))) ∧ Below we.heap.size we wx)
  case first =>
    have HQ : ∀ wx, Calls Try.prog 26 #[.int .i64 turn, .int .i64 255] wx fun e w' => ∃ r : Int, e = .returned (.int .i64 r) ∧ 0 ≤ r ∧ r < 255 ∧ IntKind.u8.wrap (1 + r) = 1 + r ∧ IntKind.i64.wrap (1 + r) = 1 + r ∧ w' = wx := by
      intro wx
      refine (pick_any wx turn 255 hy0 hy1 (by omega) (by omega)).mono ?_
      rintro en wq ⟨r, rfl, hr0, hr1, rfl⟩
      exact ⟨r, rfl, hr0, hr1, by rw [IntKind.wrap_u8]; omega, by rw [IntKind.wrap_i64]; omega, rfl⟩
    clear hy0 hy1
    have hcell' : wz.drew.cell? ⟨we.heap.size, k, none⟩ = some (.int .u8 (t[k].toNat : Int)) := hcell
    have hfroz' : wz.drew.frozen? ⟨we.heap.size, k, none⟩ = false := hfroz
    go_region_with (go_at_call 26; refine (HQ _).mono ?_; rintro en wq ⟨r, rfl, hr0, hr1, hw8, hw64, rfl⟩)
    all_goals (go_wp2_with fail; go_meet)
    all_goals exact ⟨rfl, turn_row hk _ r hr0 hr1 HH.out HS.out hbz⟩
  case rest =>
    obtain ⟨rfl, y, hy, HR, hbc⟩ := hcut
    have hl3 : (t.data.toList.set k y).length = t.size := by rw [List.length_set]; rfl
    have hcv2 := conv_row wc we.heap.size 0 t.size cp _ _ HR.out (by rw [List.length_append]; omega)
    rw [List.drop_zero, List.take_append_of_le_length (by omega), List.take_of_length_le (by omega)] at hcv2
    obtain ⟨z, hz⟩ : ∃ z, z = mk (t.data.toList.set k y) := ⟨_, rfl⟩
    have hcv3 : (convert 49 9 (.slice (some ⟨we.heap.size, 0, none⟩) t.size cp)).run Try.prog wc = .ok (.string z) wc := by rw [hz]; exact hcv2
    have hzd : z.data.toList = t.data.toList.set k y := by rw [hz, mk_data]
    have hzs : z.size = t.size := by rw [hz, mk_size, hl3]
    have hU : unpackM z.data.toList = none := by rw [hzd]; exact T'.out.turned k hk y hy
    have B0 := fun wx => twinUnpack_none wx z (by omega) hU
    have B1 := fun wx => load_bad wx z (by omega) hU
    have B2 : ∀ wx, Calls Try.prog 22 #[.string (t.extract 0 k)] wx fun e w' => e = .returned (.tuple #[.agg #[.int .i64 0, .int .i64 0, .string ⟨#[]⟩], .int .i64 6]) ∧ Below wx.heap.size wx w' := fun wx => by
      have e : t.extract 0 k = mk (t.data.toList.take k) := by rw [extract_mk]; simp
      rw [e]
      refine load_bad wx _ ?_ ?_
      · rw [mk_size, List.length_take]; omega
      · rw [mk_data]; exact T'.out.short k hk
    have B3 : ∀ wx, Calls Try.prog 22 #[.string (t ++ z.extract k z.size)] wx fun e w' => e = .returned (.tuple #[.agg #[.int .i64 0, .int .i64 0, .string ⟨#[]⟩], .int .i64 6]) ∧ Below wx.heap.size wx w' := fun wx => by
      have e : t ++ z.extract k z.size = mk (t.data.toList ++ z.data.toList.drop k) := by
        rw [extract_mk, ← mk_append, mk_list, List.take_of_length_le (by simp)]
      rw [e]
      refine load_bad wx _ ?_ ?_
      · rw [mk_size, List.length_append, List.length_drop, hll, hzd, hl3]; omega
      · rw [mk_data]
        refine T'.out.long _ ?_
        intro h0
        have := congrArg List.length h0
        rw [List.length_drop, hzd, hl3, List.length_nil] at this
        omega
    have hkI : (k : Int) ≤ (t.size : Int) := by omega
    have hkz : (k : Int) ≤ (z.size : Int) := by omega
    have hz120 : z.size ≤ 120 := by omega
    have t1 : True := trivial
    clear hzs hzd hU hz hcv2 HR HS HH hl3 hll hcell hfroz
    go_wp2_with (first
      | (go_at_call 17; refine (B0 _).mono ?_; rintro en w3 ⟨rfl, hb3⟩)
      | (go_at_call 22; have _t := t1; refine (B1 _).mono ?_; rintro en w4 ⟨rfl, hb4⟩; clear t1; have t2 : True := trivial)
      | (go_at_call 22; have _t := t2; refine (B2 _).mono ?_; rintro en w5 ⟨rfl, hb5⟩; clear t2; have t3 : True := trivial)
      | (go_at_call 22; have _t := t3; refine (B3 _).mono ?_; rintro en w6 ⟨rfl, hb6⟩))
    go_ret
    refine ⟨rfl, ?_⟩
    have k2 := hb1.trans (hb2.mono hb1.size)
    have kc := k2.trans (hbc.mono k2.size)
    have k3 := kc.trans (hb3.mono kc.size)
    have k4 := k3.trans (hb4.mono k3.size)
    have k4' := k4.alloc k4.size (.cells #[.int .i64 0, .int .i64 0, .string ⟨#[]⟩] 35)
    have k5 := k4'.trans (hb5.mono k4'.size)
    have k5' := k5.alloc k5.size (.cells #[.int .i64 0, .int .i64 0, .string ⟨#[]⟩] 35)
    have k6 := k5'.trans (hb6.mono k5'.size)
    exact k6.alloc k6.size _
end Go.Proofs.Ytcokahccbjdeaaa
