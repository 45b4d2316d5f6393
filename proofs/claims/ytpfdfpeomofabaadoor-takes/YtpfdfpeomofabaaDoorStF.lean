import Derived.Test.YtpfdfpeomofabaaDoorStD
namespace Go.Proofs.YtpfdfpeomofabaaDoor
open Go.RowKit

theorem begins_ops (c : ChipS) : c.begins.1.ops ≤ c.ops + 1 ∧ c.ops ≤ c.begins.1.ops := by
  unfold ChipS.begins; (repeat' split) <;> simp <;> omega
theorem prim_ops (c : ChipS) (p : Prim) : (c.prim p).ops ≤ c.ops + 1 ∧ c.ops ≤ (c.prim p).ops := by
  have := begins_ops c
  match p with
  | Sum.inl s =>
    show (c.erase s).ops ≤ _ ∧ _ ≤ (c.erase s).ops
    unfold ChipS.erase
    (repeat' split) <;> (try simp only) <;> omega
  | Sum.inr (o, d) =>
    show (c.program o (tx d)).ops ≤ _ ∧ _ ≤ (c.program o (tx d)).ops
    unfold ChipS.program
    (repeat' split) <;> (try simp only) <;> omega
theorem prims_ops (c : ChipS) (l : List Prim) : (c.prims l).ops ≤ c.ops + l.length ∧ c.ops ≤ (c.prims l).ops := by
  induction l generalizing c with
  | nil => exact ⟨by simp [ChipS.prims_nil], Int.le_refl _⟩
  | cons p l ih =>
    have h1 := prim_ops c p
    have h2 := ih (c.prim p)
    rw [ChipS.prims_cons, List.length_cons]
    omega
theorem piece_text (L : List UInt8) (j e : Nat) (he : e = min (8 * j + 8) L.length) : (mk L).extract (8 * j) e = mk ((L.drop (8 * j)).take 8) := by
  rw [extract_mk, mk_data]
  congr 1
  by_cases h : 8 * j + 8 ≤ L.length
  · congr 1; omega
  · rw [List.take_of_length_le (by rw [List.length_drop]; omega), List.take_of_length_le (by rw [List.length_drop]; omega)]
theorem turn_cell {w : World} (h : TurnsAt w) (t : Nat) (ht : t < 3) : w.cell? ⟨0, t, none⟩ = some (.int .u8 ((turnV t).toNat : Int)) := by
  have : t = 0 ∨ t = 1 ∨ t = 2 := by omega
  rcases this with rfl | rfl | rfl
  · exact h.t0
  · exact h.t1
  · exact h.t2
theorem Only.heap {S : Nat → Prop} {w w' : World} (h : Only S w w') {k : Nat} {o : Obj} (hk : w.heap[k]? = some o) (hs : ¬ S k) : w'.heap[k]? = some o := (h.block k (Array.getElem?_eq_some_iff.1 hk).1 hs).trans hk

set_option maxRecDepth 100000 in
set_option maxHeartbeats 4000000 in
theorem write_page (w : World) (b g : Nat) (c : ChipS) (s t : Nat) (h : HeldS) (hs : s < 2) (ht : t < 3) (hk : h.ok) (hops : c.ops < 4611686018427380000) (hd : Dv w b g c) :
    Calls Tryd.prog 62 #[.pointer (some ⟨b, 0, none⟩), pageV s t h] w fun e w' => e = .returned (.tuple #[]) ∧ ChipAt w' b g (c.prims (writeOps s t h)) ∧ Only (fun k => k = b ∨ k = g) w w' := by
  obtain ⟨i1, i2, i3, i4⟩ := hk.img
  obtain ⟨j1, j2, j3⟩ := hk.behind
  obtain ⟨L, hL⟩ : ∃ L, L = encM h := ⟨_, rfl⟩
  have hLn : L.length ≤ 247 := by rw [hL]; exact hk.len.1
  have HE : ∀ wx, Calls Tryd.prog 72 #[h.v] wx fun e w' => e = .returned (.string (mk L)) ∧ Below wx.heap.size wx w' := by
    intro wx; rw [hL]
    have := hk.fl; have := hk.tr; have := hk.sz
    exact encode_page wx h (by omega) (by omega) (by omega) (by omega) (by omega) (by omega) (by omega) (by omega) (by omega)
  have HW : Hid (c.prims (writeOps s t h) = ((c.erase s).prims (piecesN (s * 256) L ((L.length + 7) / 8))).program (s * 256 : Nat) (mk [turnV t])) := by
    rw [Hid, hL, writeOps, ChipS.prims_cons, ChipS.prims_append]; rfl
  have hbl : b < w.heap.size := (Array.getElem?_eq_some_iff.1 hd.chip.hb).1
  have hgl : g < w.heap.size := (Array.getElem?_eq_some_iff.1 hd.chip.hg).1
  have hLs := mk_size L
  obtain ⟨E, hE⟩ : ∃ E, E = mk L := ⟨_, rfl⟩
  rw [← hE] at HE hLs
  have HEs : Hid (E = mk L) := hE
  have hEn : E.size ≤ 247 := by omega
  have HZ : Hid (E.size = L.length) := hLs
  clear hE hLs hL i1 i2 i3 i4 j1 j2 j3 hLn
  have hs0 : (0 : Int) ≤ s := by omega
  have hs2 : (s : Int) < 2 := by omega
  have ht3 : (t : Int) < 3 := by omega
  obtain ⟨gd, fl, tr, ts, sz, gt⟩ := h
  simp only [HeldS.v, pageV] at *
  have t1 : True := trivial
  go_enter Tryd.func62, Tryd.ntmps62
  go_wp2_with (first
    | (go_at_call 72; refine (HE _).mono ?_; rintro en w2 ⟨rfl, hb2⟩; have hP2 := (hb2.block _ (by simp)).trans (heap_alloc_new w _); have hP3 : w2.heap[w.heap.size]? = some (.cells (pageC s t ⟨gd, fl, tr, ts, sz, gt⟩) 105 (0, 0)) := hP2; have hbw : Below w.heap.size w w2 := ((Below.refl _ _).alloc (Nat.le_refl _) _).trans (hb2.mono (by simp)); obtain ⟨q0, q1, q2, q3, q4, q5, q6, q7, qf⟩ := page_cells hP3; clear hP2)
    | (go_at_call 61; refine (erase_any w2 b g c s (by omega) (hd.chip.below hbw) (by omega)).mono ?_; rintro en w3 ⟨rfl, hc3, ho3, hz3⟩; have hP4 := ho3.heap hP3 (by omega); clear q0 q1 q2 q3 q4 q5 q6 q7 qf; obtain ⟨q0, q1, q2, q3, q4, q5, q6, q7, qf⟩ := page_cells hP4))
  have hoW : Only (fun k => k = b ∨ k = g) w w3 := (Only.of_below _ hbw).trans ho3
  have hT3 : TurnsAt w3 := hd.turns.only hoW (fun x => by rcases x with x | x; exact hd.b0 x.symm; exact hd.g0 x.symm)
  clear q0 q1 q2 q3 q4 q5 q6 q7 qf
  go_loopw [6, 7] (fun a e wr => ∃ j : Nat, j ≤ (E.size + 7) / 8 ∧ a = .int .i64 ((8 * j : Nat) : Int) ∧ ChipAt wr b g ((c.erase s).prims (piecesN (s * 256) L j)) ∧ Only (fun k => k = b ∨ k = g) w3 wr) (fun a _ _ => 256 - (intOf a).toNat)
  case atStart => exact ⟨0, by omega, rfl, hc3, Only.refl _ _⟩
  case round =>
    obtain ⟨j, hj, rfl, hc, ho⟩ := hrel
    have hP5 := ho.heap hP4 (by omega)
    obtain ⟨q0, q1, q2, q3, q4, q5, q6, q7, qf⟩ := page_cells hP5
    by_cases hlt : 8 * j < E.size
    · have hltI : (8 : Int) * j < E.size := by omega
      have hop := (prims_ops (c.erase s) (piecesN (s * 256) L j)).1
      have hop2 := (prim_ops c (.er s)).1
      have hpl : (piecesN (s * 256) L j).length = j := by simp [piecesN]
      have hop3 : ((c.erase s).prims (piecesN (s * 256) L j)).ops < 4611686018427387904 := by
        have e : (c.prim (.er s)).ops = (c.erase s).ops := rfl
        omega
      have HP : ∀ (o : Int) (d : ByteArray), o = (s * 256 + 8 * j : Nat) → d = mk ((L.drop (8 * j)).take 8) → Calls Tryd.prog 26 #[.pointer (some ⟨b, 0, none⟩), .int .i64 o, .string d] wr fun e w' => e = .returned (.tuple #[]) ∧ ChipAt w' b g ((c.erase s).prims (piecesN (s * 256) L (j + 1))) ∧ Only (fun k => k = b ∨ k = g) wr w' := by
        rintro o d rfl rfl
        refine (program_all wr b g _ _ _ (by omega) (by omega) (by rw [mk_size]; simp only [List.length_take]; omega) hc hop3).mono ?_
        rintro e w' ⟨rfl, x1, x2, _⟩
        refine ⟨rfl, ?_, x2⟩
        rw [piecesN_succ, ChipS.prims_append]
        exact x1
      by_cases hend : (E.size : Int) < 8 * j + 8
      · have HX : Hid (E.extract (8 * j) E.size = mk ((L.drop (8 * j)).take 8)) := by rw [Hid, HEs.out]; exact piece_text L j _ (by rw [← HEs.out, HZ.out]; have := HZ.out; omega)
        clear hop hop2 hpl hop3
        go_wp2_with (go_at_call 26; refine (HP _ _ (by omega) HX.out).mono ?_; rintro en w5 ⟨rfl, hc5, ho5⟩)
        go_roundw
        case rel => exact ⟨j + 1, by omega, by go_num, hc5, ho.trans ho5⟩
        case measure => simp [intOf]; omega
      · have HX : Hid (E.extract (8 * j) (8 * j + 8) = mk ((L.drop (8 * j)).take 8)) := by rw [Hid, HEs.out]; exact piece_text L j _ (by have := HZ.out; omega)
        clear hop hop2 hpl hop3
        go_wp2_with (go_at_call 26; refine (HP _ _ (by omega) HX.out).mono ?_; rintro en w5 ⟨rfl, hc5, ho5⟩)
        go_roundw
        case rel => exact ⟨j + 1, by omega, by go_num, hc5, ho.trans ho5⟩
        case measure => simp [intOf]; omega
    · have hltI : ¬ (8 : Int) * j < E.size := by omega
      have hjj : j = (E.size + 7) / 8 := by omega
      have hop := (prims_ops (c.erase s) (piecesN (s * 256) L j)).1
      have hop2 := (prim_ops c (.er s)).1
      have hpl : (piecesN (s * 256) L j).length = j := by simp [piecesN]
      have hop3 : ((c.erase s).prims (piecesN (s * 256) L j)).ops < 4611686018427387904 := by
        have e : (c.prim (.er s)).ops = (c.erase s).ops := rfl
        omega
      have HW2 : Hid (c.prims (writeOps s t ⟨gd, fl, tr, ts, sz, gt⟩) = ((c.erase s).prims (piecesN (s * 256) L j)).program (s * 256 : Nat) (mk [turnV t])) := by rw [Hid, HW.out, hjj, HZ.out]
      have hT5 : TurnsAt wr := hT3.only ho (fun x => by rcases x with x | x; exact hd.b0 x.symm; exact hd.g0 x.symm)
      have tc := turn_cell hT5 t ht
      have hcv : (convert 56 9 (.slice (some ⟨wr.heap.size, 0, none⟩) 1 1)).run Tryd.prog (wr.alloc (.cells #[.int .u8 ((turnV t).toNat : Int)] 5)) = .ok (.string (mk [turnV t])) (wr.alloc (.cells #[.int .u8 ((turnV t).toNat : Int)] 5)) := conv_cells (wr.alloc (.cells #[.int .u8 ((turnV t).toNat : Int)] 5)) wr.heap.size 1 _ [turnV t] _ (heap_alloc_new wr _) rfl
      have HP : ∀ (o : Int) wx, o = (s * 256 : Nat) → Below wr.heap.size wr wx → Calls Tryd.prog 26 #[.pointer (some ⟨b, 0, none⟩), .int .i64 o, .string (mk [turnV t])] wx fun e w' => e = .returned (.tuple #[]) ∧ ChipAt w' b g (((c.erase s).prims (piecesN (s * 256) L j)).program (s * 256 : Nat) (mk [turnV t])) ∧ Only (fun k => k = b ∨ k = g) wr w' := by
        rintro o wx rfl hbx
        refine (program_all wx b g _ _ _ (by omega) (by omega) (by rw [mk_size]; simp) (hc.below hbx) hop3).mono ?_
        rintro e w' ⟨rfl, x1, x2, _⟩
        exact ⟨rfl, x1, (Only.of_below _ hbx).trans x2⟩
      generalize mk [turnV t] = tt at *
      clear hop hop2 hpl hop3 hT5 hjj
      go_wp2_with (go_at_call 26; refine (HP _ _ (by omega) ((Below.refl _ _).alloc (Nat.le_refl _) _)).mono ?_; rintro en w5 ⟨rfl, hc5, ho5⟩)
      refine bodyPost_end (results_none rfl _ _ _) rfl ?_
      exact ⟨rfl, by rw [HW2.out]; exact hc5, hoW.trans (ho.trans ho5)⟩
end Go.Proofs.YtpfdfpeomofabaaDoor
