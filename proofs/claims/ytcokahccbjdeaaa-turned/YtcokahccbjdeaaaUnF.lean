import Derived.Test.YtcokahccbjdeaaaUnE
namespace Go.Proofs.Ytcokahccbjdeaaa
open Go.RowKit

theorem three_cellsO {w w2 : World} {S : Nat → Prop} {g : Nat} {x y z : Value} {t : TypeId} (hb : Only S w w2) (hs : ¬ S g) (hg : w.heap[g]? = some (.cells #[x, y, z] t (0, 0))) :
    w2.heap[g]? = some (.cells #[x, y, z] t (0, 0)) ∧ w2.cell? ⟨g, 0, none⟩ = some x ∧ w2.cell? ⟨g, 1, none⟩ = some y ∧ w2.cell? ⟨g, 2, none⟩ = some z ∧ ∀ o, w2.frozen? ⟨g, o, none⟩ = false := by
  have h2 : w2.heap[g]? = some (.cells #[x, y, z] t (0, 0)) := by rw [hb.block g (Array.getElem?_eq_some_iff.1 hg).1 hs]; exact hg
  exact ⟨h2, by rw [cell_of_heap h2]; rfl, by rw [cell_of_heap h2]; rfl, by rw [cell_of_heap h2]; rfl, fun o => free_of_heap h2⟩

set_option maxRecDepth 100000 in
set_option maxHeartbeats 2000000 in
theorem refLoad_none (w : World) (s : ByteArray) (hs : s.size < 4611686018427387904) (h : unpackM s.data.toList = none) :
    Calls Try.prog 23 #[.string s] w fun e w' => e = .returned (.tuple #[.agg #[.int .i64 0, .int .i64 0, .string ⟨#[]⟩], .int .i64 6]) ∧ Below w.heap.size w w' := by
  have hr : unpackR s.data.toList = none := by rw [← unpack_eq]; exact h
  have HU : ∀ wx, Calls Try.prog 18 #[.string s] wx fun e w' => e = .returned (.tuple #[.int .i64 0, .int .i64 0, .slice none 0 0, .int .i64 6]) ∧ Below wx.heap.size wx w' := fun wx => (refUnpack_any wx s hs).mono fun _ _ hh => ⟨hh.1 hr, hh.2.2⟩
  clear h hr
  go_enter Try.func23, Try.ntmps23
  go_wp2_with (go_at_call 18; refine (HU _).mono ?_; rintro en w2 ⟨rfl, hb2⟩; obtain ⟨_, q0, q1, q2, fz⟩ := three_cells hb2 (heap_alloc2_old w _ _); obtain ⟨_, r0, r1, r2, fz2⟩ := three_cells hb2 (heap_alloc2_new w _ _))
  refine bodyPost_ret (v := .tuple #[.agg #[.int .i64 0, .int .i64 0, .string ⟨#[]⟩], .int .i64 6]) (by simp [results, Try.results23, go_sem, q0, q1, q2]) rfl ⟨rfl, ?_⟩
  have hbT : Below w.heap.size w w2 := (((Below.refl w.heap.size w).alloc (Nat.le_refl _) _).alloc (by simp) _).trans (hb2.mono (by simp; omega))
  exact ((hbT.setCell (Nat.le_refl _) _).setCell (Nat.le_refl _) _).setCell (Nat.le_refl _) _

theorem ram_step (l : List UInt8) (k : Nat) (h : k < l.length) : (l.take k ++ List.replicate (l.length - k) (0 : UInt8)).set k (l.getD k 0) = l.take (k + 1) ++ List.replicate (l.length - (k + 1)) 0 := by
  rw [List.set_append_right _ _ (by simp; omega)]
  obtain ⟨n, hn⟩ : ∃ n, l.length - k = n + 1 := ⟨l.length - k - 1, by omega⟩
  rw [hn, show l.length - (k + 1) = n by omega, List.length_take, Nat.min_eq_left (by omega), Nat.sub_self, List.replicate_succ, List.set_cons_zero, List.take_succ_eq_append_getElem h, getD_get l k h, List.append_assoc]; rfl

set_option maxRecDepth 100000 in
set_option maxHeartbeats 4000000 in
theorem refLoad_some (w : World) (s : ByteArray) (hs : s.size < 4611686018427387904) (v e : Int) (rs : List Seg) (m : Mem) (h : unpackM s.data.toList = some (v, e, rs)) (hmw : m.wf) (hfit : ∀ x ∈ rs, x.fits = true) (hdr : drawAll rs = (m, true)) :
    Calls Try.prog 23 #[.string s] w fun en w' => en = .returned (.tuple #[.agg #[.int .i64 v, .int .i64 e, .string (mk m.byt)], .int .i64 0]) ∧ Below w.heap.size w w' := by
  have hr : unpackR s.data.toList = some (v, e, rs) := by rw [← unpack_eq]; exact h
  obtain ⟨hne, hl8⟩ := unpack_ne h
  have HU : ∀ wx, Calls Try.prog 18 #[.string s] wx fun en w' => ∃ (a : Option Addr) (cap : Nat), en = .returned (.tuple #[.int .i64 v, .int .i64 e, .slice a rs.length cap, .int .i64 0]) ∧ w'.ownsRow wx.heap.size 43 3 (.slice a rs.length cap) rs.length (segCells rs) ∧ Below wx.heap.size wx w' := fun wx => (refUnpack_any wx s hs).mono fun _ _ hh => by
    obtain ⟨a, cap, h1, h2⟩ := hh.2.1 v e rs hr
    exact ⟨a, cap, h1, h2, hh.2.2⟩
  obtain ⟨cells, hcl⟩ : ∃ cells, cells = memV m := ⟨_, rfl⟩
  have HCL : Hid (cells = memV m) := hcl
  have HD : ∀ (w3 : World) (a : Option Addr) (cap base : Nat), w3.ownsRow base 43 3 (.slice a rs.length cap) rs.length (segCells rs) → Calls Try.prog 46 #[.slice a rs.length cap] w3 fun e w' => e = .returned (.tuple #[.agg cells, .bool true]) ∧ Below w3.heap.size w3 w' := by
    intro w3 a cap base hown
    obtain ⟨_, a1, b1, cap1, he, r1, r2, r3, _, _⟩ := SegsAt_of_own hown
    cases he
    have := drawn_any w3 a b1 0 cap rs r1 r2 hfit (fun h => (r3 h).1) (by omega)
    rw [hdr] at this
    dsimp only at this
    rwa [← hcl] at this
  have hmk : ∀ wx, (Instr.makeSlice 49 (.int .i64 128) (.int .i64 128)).run Try.prog wx = .ok (.slice (some ⟨wx.heap.size, 0, none⟩) 128 128) (wx.alloc (.cells (bytesV (List.replicate 128 0)) 5)) := fun wx => make_row wx .i64 .i64 128 (by omega)
  obtain ⟨z, hz⟩ : ∃ z, z = bytesV (List.replicate 128 0) := ⟨_, rfl⟩
  have HZ : Hid (z = bytesV (List.replicate 128 0)) := hz
  rw [← hz] at hmk
  clear hz h hr hfit hdr hcl
  go_enter Try.func23, Try.ntmps23
  go_wp2_with (first
    | (go_at_call 18; refine (HU _).mono ?_; rintro en w2 ⟨a, cap, rfl, hown, hb2⟩)
    | (go_at_call 46; refine (HD w2 a cap _ hown).mono ?_; rintro en w3 ⟨rfl, hb3⟩)
    | (with_reducible show wpList _ _ _ ({ dst := _, op := Op.store _ _ _, type := _, pos := _, after := _, guard := _ } :: _) _ (World.alloc w3 _); refine store_pic w3 rfl _ _ rfl cells rfl rfl m hmw HCL.out ?_; intro w4 hpic hb4))
  have hb24 := (hb2.trans (hb3.mono hb2.size)).trans (hb4.mono (Nat.le_trans hb2.size hb3.size))
  have hA : (w4.alloc (.cells z 5)).heap[w.heap.size]? = some (.cells #[.int .i64 0, .int .i64 0, .string ⟨#[]⟩] 35 (0, 0)) := by
    have := (three_cells hb24 (heap_alloc2_old w _ _)).1
    rw [Below.heap_alloc _ _ _ (Array.getElem?_eq_some_iff.1 this).1]; exact this
  have hB : (w4.alloc (.cells z 5)).heap[w.heap.size + 1]? = some (.cells #[.int .i64 0, .int .i64 0, .string ⟨#[]⟩] 35 (0, 0)) := by
    have := (three_cells hb24 (heap_alloc2_new w _ _)).1
    rw [Below.heap_alloc _ _ _ (Array.getElem?_eq_some_iff.1 this).1]; exact this
  have hpic5 : PicAt (w4.alloc (.cells z 5)) w3.heap.size m := hpic.kept ((Below.refl _ _).alloc (Nat.le_refl _) _)
  have hrow : (w4.alloc (.cells z 5)).heap[w4.heap.size]? = some (.cells (bytesV (m.byt.take 0 ++ List.replicate (m.byt.length - 0) 0)) 5 (0, 0)) := by
    rw [heap_alloc_new, HZ.out, hmw.2]; rfl
  have hbT : Below w.heap.size w (w4.alloc (.cells z 5)) := ((((Below.refl w.heap.size w).alloc (Nat.le_refl _) _).alloc (by simp) _).trans (hb24.mono (by simp; omega))).alloc (by have := hb24.size; simp at this; omega) _
  have hsz : w.heap.size + 1 < w4.heap.size ∧ w3.heap.size < w4.heap.size := by
    have := hb24.size; simp at this
    exact ⟨by omega, hpic.lt⟩
  generalize w4.alloc (.cells z 5) = w5 at *
  generalize w4.heap.size = g at *
  clear hpic hb24 hb2 hb3 hb4 hown HU HD hmk
  go_loopw [12] (fun i wr => ∃ k : Nat, k ≤ 128 ∧ i = .int .i64 k ∧ wr.heap[g]? = some (.cells (bytesV (m.byt.take k ++ List.replicate (m.byt.length - k) 0)) 5 (0, 0)) ∧ Only (· = g) w5 wr) (fun i _ => 128 - (intOf i).toNat)
  case atStart => exact ⟨0, by omega, rfl, hrow, Only.refl _ _⟩
  case round =>
    obtain ⟨k, hk, rfl, hro, hon⟩ := hrel
    have hpr : PicAt wr w3.heap.size m := hpic5.keptO hon (by omega)
    have hml := hmw.2
    by_cases hlt : k < 128
    · have hby := hpr.byt k hlt
      have hf : ∀ o, wr.frozen? ⟨g, o, none⟩ = false := fun o => free_of_heap hro
      have hc : ∃ x : UInt8, wr.cell? ⟨g, k, none⟩ = some (.int .u8 (x.toNat : Int)) := ⟨_, by rw [cell_of_heap hro]; exact bytesV_get _ _ (by simp; omega)⟩
      obtain ⟨x, hc⟩ := hc
      have hltI : (k : Int) < 128 := by omega
      have HRO : Hid (wr.heap[g]? = some (.cells (bytesV (m.byt.take k ++ List.replicate (m.byt.length - k) 0)) 5 (0, 0))) := hro
      clear hro
      go_wp2
      go_roundw
      case rel =>
        refine ⟨k + 1, by omega, by go_num, ?_, hon.setCell (by exact rfl) _⟩
        rw [heap_setCell_at _ _ _ _ _ _ _ HRO.out, bytesV_set, Mem.b, ram_step _ _ (by omega)]
      case measure => simp [intOf]; omega
    · have hk2 : k = 128 := by omega
      subst hk2
      have hro2 : wr.heap[g]? = some (.cells (bytesV m.byt) 5 (0, 0)) := by
        have := hro
        rw [List.take_of_length_le (by omega), hml, Nat.sub_self, List.replicate_zero, List.append_nil] at this
        exact this
      have hro3 : ((wr.setCell ⟨w.heap.size + 1, 0, none⟩ (.int .i64 v)).setCell ⟨w.heap.size + 1, 1, none⟩ (.int .i64 e)).heap[g]? = some (.cells (bytesV m.byt) 5 (0, 0)) := by
        rw [heap_setCell_ne _ _ _ _ _ (by omega), heap_setCell_ne _ _ _ _ _ (by omega)]; exact hro2
      have hcv := conv_row _ g 0 128 128 m.byt _ hro3 (by omega)
      rw [List.drop_zero, List.take_of_length_le (by omega)] at hcv
      obtain ⟨_, q0, q1, q2, fz⟩ := three_cellsO hon (by omega) hA
      obtain ⟨hB2, r0, r1, r2, fz2⟩ := three_cellsO hon (by omega) hB
      have hcv' : (convert 49 9 (.slice (some ⟨g, 0, none⟩) 128 128)).run Try.prog ((wr.setCell ⟨w.heap.size + 1, 0, none⟩ (.int .i64 v)).setCell ⟨w.heap.size + 1, 1, none⟩ (.int .i64 e)) = .ok (.string (mk m.byt)) ((wr.setCell ⟨w.heap.size + 1, 0, none⟩ (.int .i64 v)).setCell ⟨w.heap.size + 1, 1, none⟩ (.int .i64 e)) := hcv
      have hbr : Below w.heap.size w wr := hbT.trans (hon.below hbT.size (fun j hj => by omega))
      clear hro hro2 hro3 hcv hon hpr hpic5 hrow hA hB hB2
      have hne01 : ¬ w.heap.size = w.heap.size + 1 := by omega
      go_wp2
      refine bodyPost_ret (v := .tuple #[.agg #[.int .i64 v, .int .i64 e, .string (mk m.byt)], .int .i64 0]) (by simp [results, Try.results23, go_sem, q0, q1, q2]) rfl ⟨rfl, ?_⟩
      have k1 := ((hbr.setCell (p := ⟨w.heap.size + 1, 0, none⟩) (by simp) (.int .i64 v)).setCell (p := ⟨w.heap.size + 1, 1, none⟩) (by simp) (.int .i64 e)).setCell (p := ⟨w.heap.size + 1, 2, none⟩) (by simp) (.string (mk m.byt))
      exact ((k1.setCell (Nat.le_refl _) _).setCell (Nat.le_refl _) _).setCell (Nat.le_refl _) _

set_option maxRecDepth 100000 in
theorem sameLoaded_any (w : World) (a b : Int) (d : ByteArray) :
    Calls Try.prog 24 #[.agg #[.int .i64 a, .int .i64 b, .string d], .agg #[.int .i64 a, .int .i64 b, .string d]] w fun e w' => e = .returned (.bool true) ∧ Below w.heap.size w w' := by
  go_enter Try.func24, Try.ntmps24
  go_wp2
  go_ret
  exact ⟨rfl, ((Below.refl _ _).alloc (Nat.le_refl _) _).alloc (by simp) _⟩

set_option maxRecDepth 100000 in
theorem twinLoad_any (w : World) (s : ByteArray) (a b c : Int) (d : ByteArray) (HP : ∀ w : World, Calls Try.prog 51 #[.string s] w fun e w' => e = .returned (.tuple #[.agg #[.int .i64 a, .int .i64 b, .string d], .int .i64 c]) ∧ Below w.heap.size w w') :
    Calls Try.prog 22 #[.string s] w fun e w' => e = .returned (.tuple #[.agg #[.int .i64 a, .int .i64 b, .string d], .int .i64 c]) ∧ Below w.heap.size w w' := by
  go_enter Try.func22, Try.ntmps22
  go_wp2_with (go_at_call 51; refine (HP _).mono ?_; rintro en w2 ⟨rfl, hb2⟩; obtain ⟨_, q0, q1, q2, fz⟩ := three_cells hb2 (heap_alloc_new w _))
  refine bodyPost_ret (v := .tuple #[.agg #[.int .i64 a, .int .i64 b, .string d], .int .i64 c]) (by simp [results, Try.results22, go_sem, q0, q1, q2]) rfl ⟨rfl, ?_⟩
  have hbT : Below w.heap.size w w2 := ((Below.refl w.heap.size w).alloc (Nat.le_refl _) _).trans (hb2.mono (by simp))
  exact ((hbT.setCell (Nat.le_refl _) _).setCell (Nat.le_refl _) _).setCell (Nat.le_refl _) _

/-- what Load answers -/
theorem loads_both (s : ByteArray) (hs : s.size < 4611686018427387904) : ∃ (a b c : Int) (d : ByteArray), (∀ w, Calls Try.prog 51 #[.string s] w fun e w' => e = .returned (.tuple #[.agg #[.int .i64 a, .int .i64 b, .string d], .int .i64 c]) ∧ Below w.heap.size w w') ∧
    (∀ w, Calls Try.prog 23 #[.string s] w fun e w' => e = .returned (.tuple #[.agg #[.int .i64 a, .int .i64 b, .string d], .int .i64 c]) ∧ Below w.heap.size w w') := by
  cases hu : unpackM s.data.toList with
  | none => exact ⟨0, 0, 6, ⟨#[]⟩, fun w => load_none w s hs hu, fun w => refLoad_none w s hs hu⟩
  | some q =>
    obtain ⟨v, e, rs⟩ := q
    obtain ⟨m, h1, h2, h3, h4⟩ := unpack_mem hu
    exact ⟨v, e, 0, mk m.byt, fun w => load_some w s v e rs m hu h1, fun w => refLoad_some w s hs v e rs m hu h2 h3 h4⟩

set_option maxRecDepth 100000 in
set_option maxHeartbeats 2000000 in
theorem loads_law (w : World) (s : ByteArray) (hs : s.size < 4611686018427387904) :
    Calls Try.prog 6 #[.string s] w fun en w' => en = .returned (.bool true) ∧ Below w.heap.size w w' := by
  obtain ⟨a, b, c, d, H1, H2⟩ := loads_both s hs
  have H1' := fun wx => twinLoad_any wx s a b c d H1
  have H3 := fun wx => sameLoaded_any wx a b d
  clear H1
  go_enter Try.func6, Try.ntmps6
  go_wp2_with (first
    | (go_at_call 22; refine (H1' _).mono ?_; rintro en w1 ⟨rfl, hb1⟩)
    | (go_at_call 23; refine (H2 _).mono ?_; rintro en w2 ⟨rfl, hb2⟩; obtain ⟨_, q0, q1, q2, fz⟩ := three_cells hb2 (heap_alloc_new w1 _); have hszl : w1.heap.size < w2.heap.size := by have := hb2.size; simp at this; omega)
    | (go_at_call 24; refine (H3 _).mono ?_; rintro en w3 ⟨rfl, hb3⟩))
  go_ret
  refine ⟨rfl, ?_⟩
  have k1 := hb1.alloc hb1.size (.cells #[.int .i64 a, .int .i64 b, .string d] 35)
  have k2 := k1.trans (hb2.mono k1.size)
  have k3 := k2.alloc k2.size (.cells #[.int .i64 a, .int .i64 b, .string d] 35)
  exact k3.trans (hb3.mono k3.size)
end Go.Proofs.Ytcokahccbjdeaaa
