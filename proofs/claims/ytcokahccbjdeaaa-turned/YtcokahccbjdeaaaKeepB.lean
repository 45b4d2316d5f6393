import Derived.Test.YtcokahccbjdeaaaKeepA
namespace Go.Proofs.Ytcokahccbjdeaaa
open Go.RowKit

theorem putN_byt_ge (m : Mem) (a : Nat) (d : ByteArray) (k : Nat) (h : d.size ≤ k) : (m.putN a d k).byt = (m.putN a d d.size).byt := by
  induction k with
  | zero => have : d.size = 0 := by omega
            rw [this]
  | succ k ih =>
    by_cases e : d.size = k + 1
    · rw [e]
    · simp only [Mem.putN, Mem.put]
      rw [if_neg (by omega)]
      exact ih (by omega)
theorem putN_byt_lt (m : Mem) (a : Nat) (d : ByteArray) (k : Nat) (h : k < d.size) : (m.putN a d (k + 1)).byt = (m.putN a d k).byt.set (a + k) (d.data.toList.getD k 0) := by
  simp only [Mem.putN, Mem.put]
  rw [if_pos h]

set_option maxRecDepth 100000 in
set_option maxHeartbeats 4000000 in
theorem memory_any (w : World) (a : Option Addr) (b o cap : Nat) (l : List Seg) (ha : l ≠ [] → a = some ⟨b, o, none⟩) (hl : SegsAt w b o l) (hfit : ∀ s ∈ l, s.fits = true) (hb : l ≠ [] → b < w.heap.size) (hlen : l.length < 4611686018427387904) :
    Calls Try.prog 27 #[.slice a l.length cap] w fun e w' => e = .returned (.string (mk (drawAll l).1.byt)) ∧ Below w.heap.size w w' := by
  have hmk : (Instr.makeSlice 49 (.int .i64 128) (.int .i64 128)).run Try.prog w = .ok (.slice (some ⟨w.heap.size, 0, none⟩) 128 128) (w.alloc (.cells (bytesV (List.replicate 128 0)) 5)) := make_row w .i64 .i64 128 (by omega)
  obtain ⟨z, hz⟩ : ∃ z, z = bytesV (List.replicate 128 0) := ⟨_, rfl⟩
  have HZ : Hid (z = bytesV (List.replicate 128 0)) := hz
  rw [← hz] at hmk
  clear hz
  go_enter Try.func27, Try.ntmps27
  go_wp2
  go_loopw [4, 5] (fun i _ wr => ∃ k : Nat, k ≤ l.length ∧ i = .int .i64 k ∧ wr.heap[w.heap.size]? = some (.cells (bytesV (drawAll (l.take k)).1.byt) 5 (0, 0)) ∧ Below w.heap.size w wr) (fun i _ _ => l.length - (intOf i).toNat)
  case atStart =>
    refine ⟨0, by omega, rfl, ?_, (Below.refl _ _).alloc (Nat.le_refl _) _⟩
    rw [heap_alloc_new, HZ.out]; rfl
  case round =>
    obtain ⟨k, hk, rfl, hrow, hbel⟩ := hrel
    obtain ⟨wo, rfl⟩ : ∃ wo : World, wo = wr := ⟨_, rfl⟩
    have hpw := drawAll_wf (l.take k)
    by_cases hlt : k < l.length
    · have hne : l ≠ [] := by intro e; simp [e] at hlt
      obtain rfl := ha hne
      have hb' := hb hne
      obtain ⟨c1, c2, c3⟩ := hl k hlt
      obtain ⟨f1, f2, f3, f4⟩ := (Seg.fits_iff _).1 (hfit l[k] (List.getElem_mem hlt))
      have hsn := drawAll_snoc l k hlt
      have hltI : (k : Int) < (l.length : Int) := by omega
      generalize l[k] = sg at *
      obtain ⟨x, y, d⟩ := sg
      dsimp only at c1 c2 c3 f1 f2 f3 f4
      obtain ⟨x, rfl⟩ : ∃ k : Nat, x = k := ⟨x.toNat, by omega⟩
      obtain ⟨y, rfl⟩ : ∃ k : Nat, y = k := ⟨y.toNat, by omega⟩
      have hxd : x + d.size ≤ 128 := by omega
      have HSN : Hid ((drawAll (l.take (k + 1))).1.byt = ((drawAll (l.take k)).1.putN x d d.size).byt) := by
        unfold Hid
        rw [hsn]
        show ((drawAll (l.take k)).1.putN x d y).byt = _
        exact putN_byt_ge _ _ _ _ (by omega)
      clear hsn f1 f2 f3 f4
      generalize (drawAll (l.take k)).1 = m at *
      go_wp2
      go_loopw [5] (fun i wr => ∃ j : Nat, j ≤ d.size ∧ i = .int .i64 j ∧ wr.heap[w.heap.size]? = some (.cells (bytesV (m.putN x d j).byt) 5 (0, 0)) ∧ Below w.heap.size w wr) (fun i _ => d.size - (intOf i).toNat)
      case atStart => exact ⟨0, by omega, rfl, hrow, hbel⟩
      case round =>
        obtain ⟨j, hj, rfl, hrj, hbj⟩ := hrel
        have d1 : wr.cell? ⟨b, o + k * 3, none⟩ = some (.int .i64 x) := (hbj.cell (p := ⟨b, o + k * 3, none⟩) hb').trans c1
        have d3 : wr.cell? ⟨b, o + k * 3 + 2, none⟩ = some (.string d) := (hbj.cell (p := ⟨b, o + k * 3 + 2, none⟩) hb').trans c3
        by_cases hjl : j < d.size
        · have hjI : (j : Int) < (d.size : Int) := by omega
          have hml : (m.putN x d j).byt.length = 128 := (Mem.putN_wf hpw x d j).2
          have hf : ∀ q, wr.frozen? ⟨w.heap.size, q, none⟩ = false := fun q => free_of_heap hrj
          have hc : wr.cell? ⟨w.heap.size, x + j, none⟩ = some (.int .u8 (((m.putN x d j).byt.getD (x + j) 0).toNat : Int)) := by rw [cell_of_heap hrj]; exact bytesV_get _ _ (by omega)
          have HN : Hid ((m.putN x d (j + 1)).byt = (m.putN x d j).byt.set (x + j) (d.data.toList.getD j 0)) := putN_byt_lt m x d j hjl
          have hdj : Hid (d.data.toList.getD j 0 = d[j]) := ba_getD d j hjl
          have HRJ : Hid (wr.heap[w.heap.size]? = some (.cells (bytesV (m.putN x d j).byt) 5 (0, 0))) := hrj
          generalize ((m.putN x d j).byt.getD (x + j) 0).toNat = old at *
          clear hrj hrow hbel c1 c2 c3
          go_wp2
          go_region
          all_goals go_wp2
          go_roundw
          case rel =>
            refine ⟨j + 1, by omega, by go_num, ?_, (hbj.setCell (Nat.le_refl _) _).drew⟩
            show (wr.setCell _ _).heap[w.heap.size]? = _
            rw [HN.out, hdj.out, ← bytesV_set]
            exact heap_setCell_at _ _ _ _ _ _ _ HRJ.out
          case measure => simp [intOf]; omega
        · have hjd : j = d.size := by omega
          subst hjd
          go_wp2
          go_roundw
          case rel => exact ⟨k + 1, by omega, by go_num, by rw [HSN.out]; exact hrj, hbj⟩
          case measure => simp [intOf]; omega
    · have hall : l.take k = l := List.take_of_length_le (by omega)
      rw [hall] at hrow hpw
      have hcv := conv_row wo w.heap.size 0 128 128 _ _ hrow (by rw [hpw.2]; omega)
      rw [List.drop_zero, List.take_of_length_le (by rw [hpw.2]; omega)] at hcv
      obtain ⟨bs, hbs⟩ : ∃ bs, bs = mk (drawAll l).1.byt := ⟨_, rfl⟩
      have HBS : Hid (bs = mk (drawAll l).1.byt) := hbs
      have hcv2 : (convert 49 9 (.slice (some ⟨w.heap.size, 0, none⟩) 128 128)).run Try.prog wo = .ok (.string bs) wo := by rw [hbs]; exact hcv
      clear hrow hall hbs hcv
      go_wp2
      go_ret
      exact ⟨ret_str HBS.out, hbel⟩

/-- runs: in rising order, gaps between, no nought at the end of the data -/
structure RunsOK (l : List Seg) : Prop where
  fit : ∀ s ∈ l, s.fits = true
  last : ∀ s ∈ l, ∀ h : 0 < s.data.size, s.data[s.data.size - 1] ≠ 0
  gap : ∀ i (h : i + 1 < l.length), l[i].addr + l[i].size < l[i + 1].addr

set_option maxRecDepth 100000 in
set_option maxHeartbeats 4000000 in
theorem apart_any (w : World) (a : Option Addr) (b o cap : Nat) (l : List Seg) (ha : l ≠ [] → a = some ⟨b, o, none⟩) (hl : SegsAt w b o l) (hr : RunsOK l) (hlen : l.length < 4611686018427387904) :
    Calls Try.prog 29 #[.slice a l.length cap] w fun e w' => e = .returned (.bool true) ∧ ∃ j, w' = w.drewN j := by
  go_enter Try.func29, Try.ntmps29
  go_wp2
  go_loopw [2, 3, 4] (fun _ i _ wr => ∃ k : Nat, k ≤ l.length ∧ i = .int .i64 k ∧ ∃ j, wr = w.drewN j) (fun _ i _ _ => l.length - (intOf i).toNat)
  case atStart => exact ⟨0, by omega, rfl, 0, rfl⟩
  case round =>
    obtain ⟨k, hk, rfl, j, rfl⟩ := hrel
    by_cases hlt : k < l.length
    · have hne : l ≠ [] := by intro e; simp [e] at hlt
      obtain rfl := ha hne
      obtain ⟨d1, d2, d3⟩ := hl k hlt
      obtain ⟨f1, f2, f3, f4⟩ := (Seg.fits_iff _).1 (hr.fit l[k] (List.getElem_mem hlt))
      have hlast := hr.last l[k] (List.getElem_mem hlt)
      have hltI : (k : Int) < (l.length : Int) := by omega
      have hgap : 0 < k → ∃ (x0 z0 : Int), w.cell? ⟨b, o + (k - 1) * 3, none⟩ = some (.int .i64 x0) ∧ w.cell? ⟨b, o + (k - 1) * 3 + 1, none⟩ = some (.int .i64 z0) ∧ 0 ≤ x0 ∧ 1 ≤ z0 ∧ x0 + z0 < l[k].addr := by
        intro h0
        have hk1 : k - 1 < l.length := by omega
        obtain ⟨e1, e2, _⟩ := hl (k - 1) hk1
        obtain ⟨p1, p2, _, _⟩ := (Seg.fits_iff _).1 (hr.fit l[k - 1] (List.getElem_mem hk1))
        refine ⟨_, _, e1, e2, p1, p2, ?_⟩
        have := hr.gap (k - 1) (by omega)
        have e3 : l[k - 1 + 1]'(by omega) = l[k] := by congr 1; omega
        rw [e3] at this
        exact this
      generalize l[k] = sg at *
      obtain ⟨x, z, d⟩ := sg
      dsimp only at d1 d2 d3 f1 f2 f3 f4 hlast hgap
      have e1 : (w.drewN j).cell? ⟨b, o + k * 3, none⟩ = some (.int .i64 x) := d1
      have e3 : (w.drewN j).cell? ⟨b, o + k * 3 + 2, none⟩ = some (.string d) := d3
      have hg2 : 0 < k → ∃ (x0 z0 : Int), (w.drewN j).cell? ⟨b, o + (k - 1) * 3, none⟩ = some (.int .i64 x0) ∧ (w.drewN j).cell? ⟨b, o + (k - 1) * 3 + 1, none⟩ = some (.int .i64 z0) ∧ 0 ≤ x0 ∧ 1 ≤ z0 ∧ x0 + z0 < x := hgap
      clear d1 d2 d3 hgap
      have HL : Hid (∀ h : 0 < d.size, d[d.size - 1] ≠ 0) := hlast
      have HG : Hid (0 < k → ∃ (x0 z0 : Int), (w.drewN j).cell? ⟨b, o + (k - 1) * 3, none⟩ = some (.int .i64 x0) ∧ (w.drewN j).cell? ⟨b, o + (k - 1) * 3 + 1, none⟩ = some (.int .i64 z0) ∧ 0 ≤ x0 ∧ 1 ≤ z0 ∧ x0 + z0 < x) := hg2
      clear hlast hg2
      obtain ⟨wo, hwo⟩ : ∃ wo, wo = w.drewN j := ⟨_, rfl⟩
      have HWO : Hid (wo = w.drewN j) := hwo
      rw [← hwo] at e1 e3 HG ⊢
      clear hwo
      have hdsz : (d.size : Int) ≤ 128 := by omega
      by_cases hd0 : d.size = 0
      · have hd0' : (d.size : Int) = 0 := by omega
        clear HL
        by_cases hk0 : 0 < k
        · have tk : True := trivial
          obtain ⟨x0, z0, q1, q2, p1, p2, p3⟩ := HG.out hk0
          have hk0I : (0 : Int) < (k : Int) := by omega
          have hkl1 : (k : Int) - 1 < (l.length : Int) := by omega
          have hk01 : (0 : Int) ≤ (k : Int) - 1 := by omega
          have hwr1 : IntKind.i64.wrap ((k : Int) - 1) = (k : Int) - 1 := by rw [IntKind.wrap_i64]; omega
          have hwr2 : IntKind.i64.wrap (x0 + z0) = x0 + z0 := by rw [IntKind.wrap_i64]; omega
          have ek : ((k : Int) - 1).toNat = k - 1 := by omega
          have hnx : ¬ x ≤ x0 + z0 := by omega
          go_wp2
          go_quiet (fail)
          all_goals go_wp2
          go_roundw
          case rel => exact ⟨k + 1, by omega, by go_num, j + nq, by rw [HWO.out]; simp [World.drewN, Nat.add_assoc]⟩
          case measure => simp [intOf]; omega
        · have tk : True := trivial
          have hk0I : decide ((0 : Int) < (k : Int)) = false := by simp; omega
          go_wp2
          go_quiet (fail)
          all_goals go_wp2
          go_roundw
          case rel => exact ⟨k + 1, by omega, by go_num, j + nq, by rw [HWO.out]; simp [World.drewN, Nat.add_assoc]⟩
          case measure => simp [intOf]; omega
      · have hl1 : d.size - 1 < d.size := by omega
        have hdn : ¬ (d[d.size - 1].toNat : Int) = 0 := by
          intro h
          have h2 : d[d.size - 1].toNat = 0 := by omega
          exact HL.out (by omega) (UInt8.toNat_inj.1 h2)
        have hd0' : (0 : Int) < (d.size : Int) := by omega
        have hd1 : (0 : Int) ≤ (d.size : Int) - 1 := by omega
        have hd2 : (d.size : Int) - 1 < (d.size : Int) := by omega
        have ed : ((d.size : Int) - 1).toNat = d.size - 1 := by omega
        clear HL
        by_cases hk0 : 0 < k
        · have tk : True := trivial
          obtain ⟨x0, z0, q1, q2, p1, p2, p3⟩ := HG.out hk0
          have hk0I : (0 : Int) < (k : Int) := by omega
          have hkl1 : (k : Int) - 1 < (l.length : Int) := by omega
          have hk01 : (0 : Int) ≤ (k : Int) - 1 := by omega
          have hwr1 : IntKind.i64.wrap ((k : Int) - 1) = (k : Int) - 1 := by rw [IntKind.wrap_i64]; omega
          have hwr2 : IntKind.i64.wrap (x0 + z0) = x0 + z0 := by rw [IntKind.wrap_i64]; omega
          have ek : ((k : Int) - 1).toNat = k - 1 := by omega
          have hnx : ¬ x ≤ x0 + z0 := by omega
          go_wp2
          go_quiet (fail)
          all_goals go_wp2
          go_roundw
          case rel => exact ⟨k + 1, by omega, by go_num, j + nq, by rw [HWO.out]; simp [World.drewN, Nat.add_assoc]⟩
          case measure => simp [intOf]; omega
        · have tk : True := trivial
          have hk0I : decide ((0 : Int) < (k : Int)) = false := by simp; omega
          go_wp2
          go_quiet (fail)
          all_goals go_wp2
          go_roundw
          case rel => exact ⟨k + 1, by omega, by go_num, j + nq, by rw [HWO.out]; simp [World.drewN, Nat.add_assoc]⟩
          case measure => simp [intOf]; omega
    · go_wp2
      go_ret
      exact ⟨rfl, j, rfl⟩
end Go.Proofs.Ytcokahccbjdeaaa
