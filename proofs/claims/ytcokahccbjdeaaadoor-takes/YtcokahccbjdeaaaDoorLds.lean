import Derived.Test.YtcokahccbjdeaaaDoorUns
import Derived.Test.YtcokahccbjdeaaaDoorStD
import Derived.Test.YtcokahccbjdeaaaDoorStK

namespace Go.Proofs.YtcokahccbjdeaaaDoor
open Go.RowKit

theorem unpack_ne {l : List UInt8} {v e : Int} {rs : List Seg} (h : unpackM l = some (v, e, rs)) : rs ≠ [] ∧ rs.length ≤ 8 := by
  unfold unpackM at h
  split at h
  · cases h
  · split at h
    · rename_i hp
      simp only [Option.some.injEq, Prod.mk.injEq] at h
      obtain ⟨rfl, rfl, rfl⟩ := h
      obtain ⟨m, _, _, haf, _⟩ := pack_ok hp
      simp only [allFit, Bool.and_eq_true, decide_eq_true_eq] at haf
      refine ⟨fun e => ?_, haf.1.2⟩
      rw [e] at haf
      simp at haf
    · cases h

theorem own_row {w : World} {base n : Nat} {a : Option Addr} {cap : Nat} {xs : List Value} (h : w.ownsRow base 59 3 (.slice a n cap) n xs) (hn : 0 < n) :
    ∃ g cur, a = some ⟨g, 0, none⟩ ∧ base ≤ g ∧ w.heap[g]? = some (.cells cur 59 (0, 0)) ∧ cur.size = cap * 3 ∧ n ≤ cap ∧ cap ≤ 9223372036854775807 ∧ cur.toList.take (n * 3) = xs := by
  rcases h.2 with ⟨_, h0⟩ | ⟨g, cap', cur, hv, hg, hh, h1, h2, h3, h4⟩
  · omega
  · cases hv
    exact ⟨g, cur, rfl, hg, hh, h3, h1, h2, h4⟩

theorem segs_of_cur {w : World} {g : Nat} {l : List Seg} {cur : Array Value} (h : w.heap[g]? = some (.cells cur 59 (0, 0))) (hc : cur.toList.take (l.length * 3) = segCells l) : SegsAt w g 0 l := by
  have e : cur = (segCells l ++ cur.toList.drop (l.length * 3)).toArray := by
    rw [← hc, List.take_append_drop]
  rw [e] at h
  exact segs_of_row h ⟨_, rfl⟩


theorem unpack_mem {l : List UInt8} {v e : Int} {rs : List Seg} (h : unpackM l = some (v, e, rs)) : ∃ m, layAll rs = some m ∧ m.wf ∧ (∀ s ∈ rs, s.fits = true) ∧ drawAll rs = (m, true) := by
  unfold unpackM at h
  split at h
  · cases h
  · split at h
    · rename_i hp
      simp only [Option.some.injEq, Prod.mk.injEq] at h
      obtain ⟨rfl, rfl, rfl⟩ := h
      obtain ⟨m, _, _, haf, hm, _⟩ := pack_ok hp
      simp only [allFit, Bool.and_eq_true] at haf
      have hf := List.all_eq_true.1 haf.2
      refine ⟨m, hm, layAll_wf hm, hf, ?_⟩
      have := lay_draw _ hf
      rw [hm] at this
      split at this
      · rename_i hc
        exact Prod.ext (Option.some.inj this).symm hc
      · cases this
    · cases h

theorem conv_ram (w : World) (g : Nat) (m : Mem) (h : MemAt w g m) : (convert 55 9 (.slice (some ⟨g, 128, none⟩) 128 128)).run Tryd.prog w = .ok (.string (mk m.byt)) w := by
  have := conv_mem w g m h 0 128 128 (by omega)
  rw [List.drop_zero, List.take_of_length_le (by rw [h.wf.2]; omega)] at this
  exact this


theorem three_cellsO {w w2 : World} {S : Nat → Prop} {g : Nat} {x y z : Value} {t : TypeId} (hb : Only S w w2) (hs : ¬ S g) (hg : w.heap[g]? = some (.cells #[x, y, z] t (0, 0))) :
    w2.heap[g]? = some (.cells #[x, y, z] t (0, 0)) ∧ w2.cell? ⟨g, 0, none⟩ = some x ∧ w2.cell? ⟨g, 1, none⟩ = some y ∧ w2.cell? ⟨g, 2, none⟩ = some z ∧ ∀ o, w2.frozen? ⟨g, o, none⟩ = false := by
  have h2 : w2.heap[g]? = some (.cells #[x, y, z] t (0, 0)) := by rw [hb.block g (Array.getElem?_eq_some_iff.1 hg).1 hs]; exact hg
  exact ⟨h2, by rw [cell_of_heap h2]; rfl, by rw [cell_of_heap h2]; rfl, by rw [cell_of_heap h2]; rfl, fun o => free_of_heap h2⟩

set_option maxRecDepth 100000 in
set_option maxHeartbeats 2000000 in
theorem refLoad_none (w : World) (s : ByteArray) (hs : s.size < 4611686018427387904) (h : unpackM s.data.toList = none) :
    Calls Tryd.prog 74 #[.string s] w fun e w' => e = .returned (.tuple #[.agg #[.int .i64 0, .int .i64 0, .string ⟨#[]⟩], .int .i64 6]) ∧ Below w.heap.size w w' := by
  have hr : unpackR s.data.toList = none := by rw [← unpack_eq]; exact h
  have HU : ∀ wx, Calls Tryd.prog 88 #[.string s] wx fun e w' => e = .returned (.tuple #[.int .i64 0, .int .i64 0, .slice none 0 0, .int .i64 6]) ∧ Below wx.heap.size wx w' := fun wx => (refUnpack_any wx s hs).mono fun _ _ hh => ⟨hh.1 hr, hh.2.2⟩
  clear h hr
  go_enter Tryd.func74, Tryd.ntmps74
  go_wp2_with (go_at_call 88; refine (HU _).mono ?_; rintro en w2 ⟨rfl, hb2⟩; obtain ⟨_, q0, q1, q2, fz⟩ := three_cells hb2 (heap_alloc2_old w _ _); obtain ⟨_, r0, r1, r2, fz2⟩ := three_cells hb2 (heap_alloc2_new w _ _))
  refine bodyPost_ret (v := .tuple #[.agg #[.int .i64 0, .int .i64 0, .string ⟨#[]⟩], .int .i64 6]) (by simp [results, Tryd.results74, go_sem, q0, q1, q2]) rfl ⟨rfl, ?_⟩
  have hbT : Below w.heap.size w w2 := (((Below.refl w.heap.size w).alloc (Nat.le_refl _) _).alloc (by simp) _).trans (hb2.mono (by simp; omega))
  exact ((hbT.setCell (Nat.le_refl _) _).setCell (Nat.le_refl _) _).setCell (Nat.le_refl _) _

theorem ram_step (l : List UInt8) (k : Nat) (h : k < l.length) : (l.take k ++ List.replicate (l.length - k) (0 : UInt8)).set k (l.getD k 0) = l.take (k + 1) ++ List.replicate (l.length - (k + 1)) 0 := by
  rw [List.set_append_right _ _ (by simp; omega)]
  obtain ⟨n, hn⟩ : ∃ n, l.length - k = n + 1 := ⟨l.length - k - 1, by omega⟩
  rw [hn, show l.length - (k + 1) = n by omega, List.length_take, Nat.min_eq_left (by omega), Nat.sub_self, List.replicate_succ, List.set_cons_zero, List.take_succ_eq_append_getElem h, getD_get l k h, List.append_assoc]; rfl

set_option maxRecDepth 100000 in
set_option maxHeartbeats 4000000 in
theorem refLoad_some (w : World) (s : ByteArray) (hs : s.size < 4611686018427387904) (v e : Int) (rs : List Seg) (m : Mem) (h : unpackM s.data.toList = some (v, e, rs)) (hmw : m.wf) (hfit : ∀ x ∈ rs, x.fits = true) (hdr : drawAll rs = (m, true)) :
    Calls Tryd.prog 74 #[.string s] w fun en w' => en = .returned (.tuple #[.agg #[.int .i64 v, .int .i64 e, .string (mk m.byt)], .int .i64 0]) ∧ Below w.heap.size w w' := by
  have hr : unpackR s.data.toList = some (v, e, rs) := by rw [← unpack_eq]; exact h
  obtain ⟨hne, hl8⟩ := unpack_ne h
  have HU : ∀ wx, Calls Tryd.prog 88 #[.string s] wx fun en w' => ∃ (a : Option Addr) (cap : Nat), en = .returned (.tuple #[.int .i64 v, .int .i64 e, .slice a rs.length cap, .int .i64 0]) ∧ w'.ownsRow wx.heap.size 59 3 (.slice a rs.length cap) rs.length (segCells rs) ∧ Below wx.heap.size wx w' := fun wx => (refUnpack_any wx s hs).mono fun _ _ hh => by
    obtain ⟨a, cap, h1, h2⟩ := hh.2.1 v e rs hr
    exact ⟨a, cap, h1, h2, hh.2.2⟩
  obtain ⟨cells, hcl⟩ : ∃ cells, cells = memV m := ⟨_, rfl⟩
  have HCL : Hid (cells = memV m) := hcl
  have HD : ∀ (w3 : World) (a : Option Addr) (cap base : Nat), w3.ownsRow base 59 3 (.slice a rs.length cap) rs.length (segCells rs) → Calls Tryd.prog 89 #[.slice a rs.length cap] w3 fun e w' => e = .returned (.tuple #[.agg cells, .bool true]) ∧ Below w3.heap.size w3 w' := by
    intro w3 a cap base hown
    obtain ⟨_, a1, b1, cap1, he, r1, r2, r3, _, _⟩ := SegsAt_of_own hown
    cases he
    have := drawn_any w3 a b1 0 cap rs r1 r2 hfit (fun h => (r3 h).1) (by omega)
    rw [hdr] at this
    dsimp only at this
    rwa [← hcl] at this
  have hmk : ∀ wx, (Instr.makeSlice 55 (.int .i64 128) (.int .i64 128)).run Tryd.prog wx = .ok (.slice (some ⟨wx.heap.size, 0, none⟩) 128 128) (wx.alloc (.cells (bytesV (List.replicate 128 0)) 5)) := fun wx => make_row wx .i64 .i64 128 (by omega)
  obtain ⟨z, hz⟩ : ∃ z, z = bytesV (List.replicate 128 0) := ⟨_, rfl⟩
  have HZ : Hid (z = bytesV (List.replicate 128 0)) := hz
  rw [← hz] at hmk
  clear hz h hr hfit hdr hcl
  go_enter Tryd.func74, Tryd.ntmps74
  go_wp2_with (first
    | (go_at_call 88; refine (HU _).mono ?_; rintro en w2 ⟨a, cap, rfl, hown, hb2⟩)
    | (go_at_call 89; refine (HD w2 a cap _ hown).mono ?_; rintro en w3 ⟨rfl, hb3⟩)
    | (with_reducible show wpList _ _ _ ({ dst := _, op := Op.store _ _ _, type := _, pos := _, after := _, guard := _ } :: _) _ (World.alloc w3 _); refine store_pic w3 rfl _ _ rfl cells rfl rfl m hmw HCL.out ?_; intro w4 hpic hb4))
  have hb24 := (hb2.trans (hb3.mono hb2.size)).trans (hb4.mono (Nat.le_trans hb2.size hb3.size))
  have hA : (w4.alloc (.cells z 5)).heap[w.heap.size]? = some (.cells #[.int .i64 0, .int .i64 0, .string ⟨#[]⟩] 36 (0, 0)) := by
    have := (three_cells hb24 (heap_alloc2_old w _ _)).1
    rw [Below.heap_alloc _ _ _ (Array.getElem?_eq_some_iff.1 this).1]; exact this
  have hB : (w4.alloc (.cells z 5)).heap[w.heap.size + 1]? = some (.cells #[.int .i64 0, .int .i64 0, .string ⟨#[]⟩] 36 (0, 0)) := by
    have := (three_cells hb24 (heap_alloc2_new w _ _)).1
    rw [Below.heap_alloc _ _ _ (Array.getElem?_eq_some_iff.1 this).1]; exact this
  have hpic5 : PicAt (w4.alloc (.cells z 5)) w3.heap.size m := hpic.kept ((Below.refl _ _).alloc (Nat.le_refl _) _)
  have hrow : (w4.alloc (.cells z 5)).heap[w4.heap.size]? = some (.cells (bytesV (m.byt.take 0 ++ List.replicate (m.byt.length - 0) 0)) 5 (0, 0)) := by
    rw [heap_alloc_new, HZ.out, hmw.2]; rfl
  have hbT : Below w.heap.size w (w4.alloc (.cells z 5)) := ((((Below.refl w.heap.size w).alloc (Nat.le_refl _) _).alloc (by simp) _).trans (hb24.mono (by simp; omega))).alloc (by have := hb24.size; simp at this; omega) _
  have hsz : w.heap.size + 1 < w4.heap.size ∧ w3.heap.size < w4.heap.size := by
    have := hb24.size; simp at this
    exact ⟨by omega, hpic.lt⟩
  generalize w4.alloc (.cells z 5) = w5 at *
  generalize w4.heap.size = g at *
  clear hpic hb24 hb2 hb3 hb4 hown HU HD hmk
  go_loopw [12] (fun i wr => ∃ k : Nat, k ≤ 128 ∧ i = .int .i64 k ∧ wr.heap[g]? = some (.cells (bytesV (m.byt.take k ++ List.replicate (m.byt.length - k) 0)) 5 (0, 0)) ∧ Only (· = g) w5 wr) (fun i _ => 128 - (intOf i).toNat)
  case atStart => exact ⟨0, by omega, rfl, hrow, Only.refl _ _⟩
  case round =>
    obtain ⟨k, hk, rfl, hro, hon⟩ := hrel
    have hpr : PicAt wr w3.heap.size m := hpic5.keptO hon (by omega)
    have hml := hmw.2
    by_cases hlt : k < 128
    · have hby := hpr.byt k hlt
      have hf : ∀ o, wr.frozen? ⟨g, o, none⟩ = false := fun o => free_of_heap hro
      have hc : ∃ x : UInt8, wr.cell? ⟨g, k, none⟩ = some (.int .u8 (x.toNat : Int)) := ⟨_, by rw [cell_of_heap hro]; exact bytesV_get _ _ (by simp; omega)⟩
      obtain ⟨x, hc⟩ := hc
      have hltI : (k : Int) < 128 := by omega
      have HRO : Hid (wr.heap[g]? = some (.cells (bytesV (m.byt.take k ++ List.replicate (m.byt.length - k) 0)) 5 (0, 0))) := hro
      clear hro
      go_wp2
      go_roundw
      case rel =>
        refine ⟨k + 1, by omega, by go_num, ?_, hon.setCell (by exact rfl) _⟩
        rw [heap_setCell_at _ _ _ _ _ _ _ HRO.out, bytesV_set, Mem.b, ram_step _ _ (by omega)]
      case measure => simp [intOf]; omega
    · have hk2 : k = 128 := by omega
      subst hk2
      have hro2 : wr.heap[g]? = some (.cells (bytesV m.byt) 5 (0, 0)) := by
        have := hro
        rw [List.take_of_length_le (by omega), hml, Nat.sub_self, List.replicate_zero, List.append_nil] at this
        exact this
      have hro3 : ((wr.setCell ⟨w.heap.size + 1, 0, none⟩ (.int .i64 v)).setCell ⟨w.heap.size + 1, 1, none⟩ (.int .i64 e)).heap[g]? = some (.cells (bytesV m.byt) 5 (0, 0)) := by
        rw [heap_setCell_ne _ _ _ _ _ (by omega), heap_setCell_ne _ _ _ _ _ (by omega)]; exact hro2
      have hcv := conv_row _ g 0 128 128 m.byt _ hro3 (by omega)
      rw [List.drop_zero, List.take_of_length_le (by omega)] at hcv
      obtain ⟨_, q0, q1, q2, fz⟩ := three_cellsO hon (by omega) hA
      obtain ⟨hB2, r0, r1, r2, fz2⟩ := three_cellsO hon (by omega) hB
      have hcv' : (convert 55 9 (.slice (some ⟨g, 0, none⟩) 128 128)).run Tryd.prog ((wr.setCell ⟨w.heap.size + 1, 0, none⟩ (.int .i64 v)).setCell ⟨w.heap.size + 1, 1, none⟩ (.int .i64 e)) = .ok (.string (mk m.byt)) ((wr.setCell ⟨w.heap.size + 1, 0, none⟩ (.int .i64 v)).setCell ⟨w.heap.size + 1, 1, none⟩ (.int .i64 e)) := hcv
      have hbr : Below w.heap.size w wr := hbT.trans (hon.below hbT.size (fun j hj => by omega))
      clear hro hro2 hro3 hcv hon hpr hpic5 hrow hA hB hB2
      have hne01 : ¬ w.heap.size = w.heap.size + 1 := by omega
      go_wp2
      refine bodyPost_ret (v := .tuple #[.agg #[.int .i64 v, .int .i64 e, .string (mk m.byt)], .int .i64 0]) (by simp [results, Tryd.results74, go_sem, q0, q1, q2]) rfl ⟨rfl, ?_⟩
      have k1 := ((hbr.setCell (p := ⟨w.heap.size + 1, 0, none⟩) (by simp) (.int .i64 v)).setCell (p := ⟨w.heap.size + 1, 1, none⟩) (by simp) (.int .i64 e)).setCell (p := ⟨w.heap.size + 1, 2, none⟩) (by simp) (.string (mk m.byt))
      exact ((k1.setCell (Nat.le_refl _) _).setCell (Nat.le_refl _) _).setCell (Nat.le_refl _) _

set_option maxRecDepth 100000 in
theorem sameLoaded_any (w : World) (a b : Int) (d : ByteArray) :
    Calls Tryd.prog 45 #[.agg #[.int .i64 a, .int .i64 b, .string d], .agg #[.int .i64 a, .int .i64 b, .string d]] w fun e w' => e = .returned (.bool true) ∧ Below w.heap.size w w' := by
  go_enter Tryd.func45, Tryd.ntmps45
  go_wp2
  go_ret
  exact ⟨rfl, ((Below.refl _ _).alloc (Nat.le_refl _) _).alloc (by simp) _⟩


end Go.Proofs.YtcokahccbjdeaaaDoor

namespace Go.Proofs.YtcokahccbjdeaaaDoor
open Go.RowKit

/-- What Load answers of a text: version, entry, memory. -/
def loadedB (s : ByteArray) : Int × Int × ByteArray := match unpackM s.data.toList with
  | none => (0, 0, ⟨#[]⟩)
  | some (v, e, rs) => (v, e, mk (drawAll rs).1.byt)
theorem refLoad_any (w : World) (s : ByteArray) (hs : s.size < 4611686018427387904) :
    Calls Tryd.prog 74 #[.string s] w fun en w' => en = .returned (.tuple #[.agg #[.int .i64 (loadedB s).1, .int .i64 (loadedB s).2.1, .string (loadedB s).2.2], .int .i64 (if verB s < 0 then 6 else 0)]) ∧ Below w.heap.size w w' := by
  cases hu : unpackM s.data.toList with
  | none =>
    have hv : verB s = -1 := by unfold verB verM; rw [hu]
    have hl : loadedB s = (0, 0, ⟨#[]⟩) := by unfold loadedB; rw [hu]
    rw [hv, hl]
    exact refLoad_none w s hs hu
  | some q =>
    obtain ⟨v, e, rs⟩ := q
    obtain ⟨m, h1, h2, h3, h4⟩ := unpack_mem hu
    have h0 := (unpack_ver hu).1
    have hv : verB s = v := by unfold verB verM; rw [hu]
    have hl : loadedB s = (v, e, mk m.byt) := by unfold loadedB; rw [hu]; simp only [h4]
    rw [hv, hl, if_neg (by omega)]
    exact refLoad_some w s hs v e rs m hu h2 h3 h4
theorem jump_alloc {w : World} {g : Nat} (H : w.heap[g]? = some (.cells #[.bool false, .int .i64 0, .int .i64 0, .string ⟨#[]⟩] 68 (0, 0))) :
    (∀ x, (w.alloc x).cell? ⟨g, 0, none⟩ = some (.bool false)) ∧ (∀ x, (w.alloc x).cell? ⟨g, 1, none⟩ = some (.int .i64 0)) ∧ (∀ x, (w.alloc x).cell? ⟨g, 2, none⟩ = some (.int .i64 0)) ∧ (∀ x, (w.alloc x).cell? ⟨g, 3, none⟩ = some (.string ⟨#[]⟩)) ∧ (∀ x o, (w.alloc x).frozen? ⟨g, o, none⟩ = false) := by
  refine ⟨?_, ?_, ?_, ?_, fun x o => free_of_heap (alloc_heap H x)⟩ <;> (intro x; rw [cell_of_heap (alloc_heap H x)]; rfl)
end Go.Proofs.YtcokahccbjdeaaaDoor

namespace Go.Proofs.YtcokahccbjdeaaaDoor
open Go.RowKit

set_option maxRecDepth 100000 in
set_option maxHeartbeats 2000000 in
theorem load_none (w : World) (s : ByteArray) (hs : s.size < 4611686018427387904) (h : unpackM s.data.toList = none) :
    Calls Tryd.prog 21 #[.string s] w fun e w' => e = .returned (.tuple #[.agg #[.int .i64 0, .int .i64 0, .string ⟨#[]⟩], .int .i64 6]) ∧ Below w.heap.size w w' := by
  have HU := fun wx => unpack_none wx s hs h
  clear h
  go_enter Tryd.func21, Tryd.ntmps21
  go_wp2_with (go_at_call 48; refine (HU _).mono ?_; rintro en w2 ⟨rfl, hb2⟩; obtain ⟨hg2, q0, q1, q2, fz⟩ := three_cells hb2 (heap_alloc_new w _); clear hg2)
  refine bodyPost_ret (v := .tuple #[.agg #[.int .i64 0, .int .i64 0, .string ⟨#[]⟩], .int .i64 6]) (by simp [results, Tryd.results21, go_sem, q0, q1, q2]) rfl ⟨rfl, ?_⟩
  have hbT : Below w.heap.size w w2 := ((Below.refl w.heap.size w).alloc (Nat.le_refl _) _).trans (hb2.mono (by simp))
  exact ((hbT.setCell (Nat.le_refl _) _).setCell (Nat.le_refl _) _).setCell (Nat.le_refl _) _

set_option maxRecDepth 100000 in
set_option maxHeartbeats 2000000 in
theorem load_some (w : World) (s : ByteArray) (v e : Int) (rs : List Seg) (m : Mem) (h : unpackM s.data.toList = some (v, e, rs)) (hm : layAll rs = some m) :
    Calls Tryd.prog 21 #[.string s] w fun en w' => en = .returned (.tuple #[.agg #[.int .i64 v, .int .i64 e, .string (mk m.byt)], .int .i64 0]) ∧ Below w.heap.size w w' := by
  have HU := fun wx => unpack_some wx s v e rs h
  obtain ⟨hne, hl8⟩ := unpack_ne h
  have hok : ∀ x ∈ rs, x.ok := by
    unfold unpackM at h
    split at h
    · cases h
    · rename_i v' e' rs' hd
      split at h
      · simp only [Option.some.injEq, Prod.mk.injEq] at h
        obtain ⟨rfl, rfl, rfl⟩ := h
        exact (decM_ok hd).1
      · cases h
  have HL : ∀ (w3 : World) (a : Option Addr) (cap base : Nat), w3.ownsRow base 59 3 (.slice a rs.length cap) rs.length (segCells rs) → Calls Tryd.prog 49 #[.slice a rs.length cap] w3 fun e w' => e = .returned (.tuple #[.pointer (some ⟨w3.heap.size, 0, none⟩), .bool true]) ∧ MemAt w' w3.heap.size m ∧ Below w3.heap.size w3 w' := by
    intro w3 a cap base hown
    obtain ⟨_, a1, b1, cap1, he, r1, r2, r3, _, _⟩ := SegsAt_of_own hown
    cases he
    exact (lay_any w3 a b1 0 cap rs r1 r2 hok (fun h => (r3 h).1) (by omega)).mono fun _ _ hh => ⟨(hh.1 m hm).1, (hh.1 m hm).2, hh.2.2⟩
  clear h hm hok
  go_enter Tryd.func21, Tryd.ntmps21
  go_wp2_with (first
    | (go_at_call 48; refine (HU _).mono ?_; rintro en w2 ⟨a, cap, rfl, hown, hb2⟩)
    | (go_at_call 49; refine (HL w2 a cap _ hown).mono ?_; rintro en w3 ⟨rfl, hmm, hb3⟩; obtain ⟨hg2, q0, q1, q2, fz⟩ := three_cells (hb2.trans (hb3.mono hb2.size)) (heap_alloc_new w _); clear hg2; have hcv := conv_ram w3 _ m hmm))
  refine bodyPost_ret (v := .tuple #[.agg #[.int .i64 v, .int .i64 e, .string (mk m.byt)], .int .i64 0]) (by simp [results, Tryd.results21, go_sem, q0, q1, q2]) rfl ⟨rfl, ?_⟩
  have hbT : Below w.heap.size w w3 := ((Below.refl w.heap.size w).alloc (Nat.le_refl _) _).trans ((hb2.trans (hb3.mono hb2.size)).mono (by simp))
  exact ((hbT.setCell (Nat.le_refl _) _).setCell (Nat.le_refl _) _).setCell (Nat.le_refl _) _
theorem load_any (w : World) (s : ByteArray) (hs : s.size < 4611686018427387904) :
    Calls Tryd.prog 21 #[.string s] w fun en w' => en = .returned (.tuple #[.agg #[.int .i64 (loadedB s).1, .int .i64 (loadedB s).2.1, .string (loadedB s).2.2], .int .i64 (if verB s < 0 then 6 else 0)]) ∧ Below w.heap.size w w' := by
  cases hu : unpackM s.data.toList with
  | none =>
    have hv : verB s = -1 := by unfold verB verM; rw [hu]
    have hl : loadedB s = (0, 0, ⟨#[]⟩) := by unfold loadedB; rw [hu]
    rw [hv, hl]
    exact load_none w s hs hu
  | some q =>
    obtain ⟨v, e, rs⟩ := q
    obtain ⟨m, h1, h2, h3, h4⟩ := unpack_mem hu
    have h0 := (unpack_ver hu).1
    have hv : verB s = v := by unfold verB verM; rw [hu]
    have hl : loadedB s = (v, e, mk m.byt) := by unfold loadedB; rw [hu]; simp only [h4]
    rw [hv, hl, if_neg (by omega)]
    exact load_some w s v e rs m hu h1
theorem loaded_no {s : ByteArray} (h : verB s < 0) : loadedB s = (0, 0, ⟨#[]⟩) := by
  unfold loadedB
  unfold verB verM at h
  split at h
  · rename_i hu; rw [hu]
  · rename_i hu; have := (unpack_ver hu).1; omega
theorem ver_none : verB (tx []) < 0 := by
  by_cases h : 0 ≤ verM (tx []).data.toList
  · exact absurd rfl (ver_len _ h).2
  · unfold verB; omega
def noJump : Array Value := #[.bool false, .int .i64 0, .int .i64 0, .string ⟨#[]⟩]
theorem jump_cells {w : World} {g : Nat} (H : w.heap[g]? = some (.cells noJump 68 (0, 0))) :
    w.cell? ⟨g, 0, none⟩ = some (.bool false) ∧ w.cell? ⟨g, 1, none⟩ = some (.int .i64 0) ∧ w.cell? ⟨g, 2, none⟩ = some (.int .i64 0) ∧ w.cell? ⟨g, 3, none⟩ = some (.string ⟨#[]⟩) ∧ (∀ o, w.frozen? ⟨g, o, none⟩ = false) := by
  refine ⟨?_, ?_, ?_, ?_, fun o => free_of_heap H⟩ <;> (rw [cell_of_heap H]; rfl)
/-- A boot's answer, as it lies. -/
def jumpV (t : Bool) (s : ByteArray) : Array Value := #[.bool t, .int .i64 (loadedB s).1, .int .i64 (loadedB s).2.1, .string (loadedB s).2.2]
set_option maxRecDepth 100000 in
set_option maxHeartbeats 4000000 in
theorem jump_ok (w : World) (s : ByteArray) (t : Bool) (hs : s.size < 4611686018427387904) (hv : 0 ≤ verB s) :
    Calls Tryd.prog 51 #[.string s, .bool t] w fun e w' => e = .returned (.agg (jumpV t s)) ∧ Below w.heap.size w w' := by
  have HL := fun wx => load_any wx s hs
  rw [if_neg (by omega)] at HL
  unfold jumpV
  generalize loadedB s = lo at *
  obtain ⟨a, b, c⟩ := lo
  simp only at *
  have hb1 : ∀ o, Below w.heap.size w (w.alloc o) := fun o => (Below.refl _ _).alloc (Nat.le_refl _) _
  go_enter Tryd.func51, Tryd.ntmps51
  go_wp2_with (go_at_call 21; refine (HL _).mono ?_; rintro en w2 ⟨rfl, hb⟩; have hB := below_heap hb (heap_alloc_new w _); obtain ⟨r0, r1, r2, r3, rf⟩ := jump_alloc hB)
  refine bodyPost_ret (v := .agg #[.bool t, .int .i64 a, .int .i64 b, .string c]) (by simp [results, Tryd.results51, go_sem, r0, r1, r2, r3]) rfl ⟨rfl, ?_⟩
  have hbw := (hb1 _).trans (hb.mono (by simp))
  have hbA := hbw.alloc hbw.size (.cells #[.int .i64 a, .int .i64 b, .string c] 36)
  have hle := Nat.le_refl w.heap.size
  exact (((hbA.setCell hle _).setCell hle _).setCell hle _).setCell hle _
end Go.Proofs.YtcokahccbjdeaaaDoor
