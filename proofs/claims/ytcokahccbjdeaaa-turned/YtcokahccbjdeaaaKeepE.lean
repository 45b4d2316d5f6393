import Derived.Test.YtcokahccbjdeaaaKeepD
namespace Go.Proofs.Ytcokahccbjdeaaa
open Go.RowKit

set_option maxRecDepth 100000 in
set_option maxHeartbeats 4000000 in
theorem back_none (w : World) (s : ByteArray) (hs : s.size < 4611686018427387904) (hu : unpackM s.data.toList = none) :
    Calls Try.prog 10 #[.string s] w fun en w' => en = .returned (.bool true) ∧ Below w.heap.size w w' := by
  have hz := exRam_size
  have h4 : (4 : Int) < (exRam.size : Int) := by omega
  have h4' : 4 < exRam.size := by omega
  have e4 : (exRam[4].toNat : Int) = 97 := by rw [exRam_4]; rfl
  have HU := fun wx => twinUnpack_none wx s hs hu
  have HL := fun wx => twinLoad_any wx s 0 0 6 ⟨#[]⟩ (fun w => load_none w s hs hu)
  have t1 : True := trivial
  clear hu
  go_enter Try.func10, Try.ntmps10
  go_wp2_with (first
    | (go_at_call 22; have _t := t1; refine (ex_load _).mono ?_; rintro en w1 ⟨rfl, hb1⟩; clear t1)
    | (go_at_call 17; refine (HU _).mono ?_; rintro en w2 ⟨rfl, hb2⟩)
    | (go_at_call 22; refine (HL _).mono ?_; rintro en w3 ⟨rfl, hb3⟩))
  go_ret
  refine ⟨rfl, ?_⟩
  have k1 := hb1.alloc hb1.size (.cells #[.int .i64 258, .int .i64 5, .string exRam] 35)
  have k2 := k1.trans (hb2.mono k1.size)
  have k3 := k2.trans (hb3.mono k2.size)
  exact k3.alloc k3.size _

set_option maxRecDepth 1000000 in
set_option maxHeartbeats 8000000 in
theorem back_some (w : World) (s : ByteArray) (v e : Int) (rs : List Seg) (hu : unpackM s.data.toList = some (v, e, rs)) :
    Calls Try.prog 10 #[.string s] w fun en w' => en = .returned (.bool true) ∧ Below w.heap.size w w' := by
  have hz := exRam_size
  have h4 : (4 : Int) < (exRam.size : Int) := by omega
  have h4' : 4 < exRam.size := by omega
  have e4 : (exRam[4].toNat : Int) = 97 := by rw [exRam_4]; rfl
  obtain ⟨m, hm1, hmw, hrs, hdr, hfit, hpk, he0, he1, hce⟩ := unpack_runs hu
  obtain ⟨hne, hl8⟩ := unpack_ne hu
  have hpos : 0 < rs.length := List.length_pos_iff.2 hne
  have hok : ∀ x ∈ rs, x.ok := by rw [hrs]; exact fun x hx => (runsOf_ok hmw x hx).1
  have hROK : RunsOK rs := by
    have := runsOK_of hmw (by rw [← hrs]; exact hfit)
    rwa [← hrs] at this
  have hcov : coverN rs e = 1 := by
    obtain ⟨n, rfl⟩ : ∃ n : Nat, e = n := ⟨e.toNat, by omega⟩
    rw [coverN_lay hm1 n]
    rw [Int.toNat_natCast] at hce
    rw [hce]; rfl
  have HU := fun wx => twinUnpack_some wx s v e rs hu
  have HL := fun wx => twinLoad_any wx s v e 0 (mk m.byt) (fun w => load_some w s v e rs m hu hm1)
  have HW : ∀ (wx : World) (g cap : Nat), SegsAt wx g 0 rs → g < wx.heap.size → Calls Try.prog 28 #[.slice (some ⟨g, 0, none⟩) rs.length cap] wx fun e w' => e = .returned (.bool true) ∧ Below wx.heap.size wx w' := fun wx g cap h1 h2 => within_any wx _ g 0 cap rs (fun _ => rfl) h1 hfit (fun _ => h2) (by omega)
  have HA : ∀ (wx : World) (g cap : Nat), SegsAt wx g 0 rs → Calls Try.prog 29 #[.slice (some ⟨g, 0, none⟩) rs.length cap] wx fun e w' => e = .returned (.bool true) ∧ ∃ j, w' = wx.drewN j := fun wx g cap h1 => apart_any wx _ g 0 cap rs (fun _ => rfl) h1 hROK (by omega)
  have HC : ∀ (wx : World) (g cap : Nat), SegsAt wx g 0 rs → Calls Try.prog 33 #[.slice (some ⟨g, 0, none⟩) rs.length cap, .int .i64 e] wx fun e w' => e = .returned (.int .i64 1) ∧ ∃ j, w' = wx.drewN j := fun wx g cap h1 => by
    have := covered_any wx _ g 0 cap rs e (fun _ => rfl) h1 hfit (by omega)
    rw [hcov] at this
    exact this
  have HM : ∀ (wx : World) (g cap : Nat), SegsAt wx g 0 rs → g < wx.heap.size → Calls Try.prog 27 #[.slice (some ⟨g, 0, none⟩) rs.length cap] wx fun e w' => e = .returned (.string (mk m.byt)) ∧ Below wx.heap.size wx w' := fun wx g cap h1 h2 => by
    have := memory_any wx _ g 0 cap rs (fun _ => rfl) h1 hfit (fun _ => h2) (by omega)
    rw [hdr] at this
    exact this
  have HP : ∀ (wx : World) (g cap : Nat), SegsAt wx g 0 rs → g < wx.heap.size → Calls Try.prog 14 #[.int .i64 v, .int .i64 e, .slice (some ⟨g, 0, none⟩) rs.length cap] wx fun en w' => en = .returned (.tuple #[.string s, .int .i64 0]) ∧ Below wx.heap.size wx w' := fun wx g cap h1 h2 => by
    have := twinPack_any wx v e _ g 0 cap rs (fun _ => rfl) h1 hok (fun _ => h2) (by omega)
    rw [hpk] at this
    dsimp only at this
    rwa [mk_list] at this
  generalize mk m.byt = ram at *
  have t1 : True := trivial
  clear hu hm1 hmw hrs hdr hfit hpk hce hok hROK hcov
  go_enter Try.func10, Try.ntmps10
  go_wp2_with (first
    | (go_at_call 22; have _t := t1; refine (ex_load _).mono ?_; rintro en w1 ⟨rfl, hb1⟩; clear t1)
    | (go_at_call 17; refine (HU _).mono ?_; rintro en w2 ⟨a2, cap2, rfl, hown2, hb2⟩; obtain ⟨g2, cur2, rfl, hg2, hh2, hs2, hn2, hm2, hx2⟩ := own_row hown2 hpos; clear hown2)
    | (go_at_call 22; refine (HL _).mono ?_; rintro en w3 ⟨rfl, hb3⟩; have hh3 := (hb3.block _ (Array.getElem?_eq_some_iff.1 hh2).1).trans hh2; have hh3' := (Below.heap_alloc w3 (.cells #[.int .i64 v, .int .i64 e, .string ram] 35) _ (Array.getElem?_eq_some_iff.1 hh3).1).trans hh3; have hl3 := heap_alloc_new w3 (.cells #[.int .i64 v, .int .i64 e, .string ram] 35))
    | (go_at_call 28; refine (HW _ g2 cap2 (segs_of_cur hh3' hx2) (Array.getElem?_eq_some_iff.1 hh3').1).mono ?_; rintro en w4 ⟨rfl, hb4⟩; have hh4 := (hb4.block _ (Array.getElem?_eq_some_iff.1 hh3').1).trans hh3'; have hl4 := (hb4.block _ (Array.getElem?_eq_some_iff.1 hl3).1).trans hl3)
    | (go_at_call 29; refine (HA w4 g2 cap2 (segs_of_cur hh4 hx2)).mono ?_; rintro en w5 ⟨rfl, j5, rfl⟩; have hh5 : (w4.drewN j5).heap[g2]? = _ := hh4; have hl5 : (w4.drewN j5).heap[w3.heap.size]? = _ := hl4)
    | (go_at_call 33; refine (HC _ g2 cap2 (segs_of_cur hh5 hx2)).mono ?_; rintro en w6 ⟨rfl, j6, rfl⟩; have hh6 : (w4.drewN (j5 + j6)).heap[g2]? = _ := hh4; have hl6 : (w4.drewN (j5 + j6)).heap[w3.heap.size]? = _ := hl4)
    | (go_at_call 27; refine (HM (w4.drewN (j5 + j6)) g2 cap2 (segs_of_cur hh6 hx2) (Array.getElem?_eq_some_iff.1 hh6).1).mono ?_; rintro en w7 ⟨rfl, hb7⟩; have hh7 := (hb7.block _ (Array.getElem?_eq_some_iff.1 hh6).1).trans hh6; have hl7 := (hb7.block _ (Array.getElem?_eq_some_iff.1 hl6).1).trans hl6)
    | (go_at_call 14; refine (HP _ g2 cap2 (segs_of_cur hh7 hx2) (Array.getElem?_eq_some_iff.1 hh7).1).mono ?_; rintro en w8 ⟨rfl, hb8⟩; obtain ⟨_, q0, q1, q2, _⟩ := three_cells hb8 hl7))
  go_ret
  refine ⟨rfl, ?_⟩
  have k1 := hb1.alloc hb1.size (.cells #[.int .i64 258, .int .i64 5, .string exRam] 35)
  have k2 := k1.trans (hb2.mono k1.size)
  have k3 := k2.trans (hb3.mono k2.size)
  have k3' := k3.alloc k3.size (.cells #[.int .i64 v, .int .i64 e, .string ram] 35)
  have k4 := k3'.trans (hb4.mono k3'.size)
  have k6 : Below w.heap.size w (w4.drewN (j5 + j6)) := ⟨k4.os, k4.tape, k4.output, k4.size, k4.block⟩
  have k7 := k6.trans (hb7.mono k6.size)
  exact k7.trans (hb8.mono k7.size)

theorem back_law (w : World) (s : ByteArray) (hs : s.size < 4611686018427387904) :
    Calls Try.prog 10 #[.string s] w fun en w' => en = .returned (.bool true) ∧ Below w.heap.size w w' := by
  cases hu : unpackM s.data.toList with
  | none => exact back_none w s hs hu
  | some q =>
    obtain ⟨v, e, rs⟩ := q
    exact back_some w s v e rs hu
end Go.Proofs.Ytcokahccbjdeaaa
