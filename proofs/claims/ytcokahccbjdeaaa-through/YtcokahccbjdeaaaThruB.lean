import Derived.Test.YtcokahccbjdeaaaThruA
namespace Go.Proofs.Ytcokahccbjdeaaa
open Go.RowKit

theorem pieces_lay {P : List Seg} (h : Pieces P 120) (hl : P.length ≤ 6) : ∃ m, layAll P = some m ∧ (∀ s ∈ P, s.fits = true) ∧ sizes P ≤ 72 := by
  have hf : ∀ s ∈ P, s.fits = true := by
    intro s hs
    obtain ⟨h1, h2, h3, h4, h5⟩ := h.size s hs
    rw [Seg.fits_iff]
    exact ⟨h1, h2, by omega, h4⟩
  obtain ⟨m, hm⟩ := lay_order P hf h.order P.length (Nat.le_refl _)
  rw [List.take_of_length_le (Nat.le_refl _)] at hm
  have := sizes_le P (fun s hs => (h.size s hs).2.2.1)
  exact ⟨m, hm, hf, by omega⟩

theorem SegsIn.nth {w : World} {a : Option Addr} {l : List Seg} (h : SegsIn w a l) (k : Nat) (hk : k < l.length) : ∃ b o, a = some ⟨b, o, none⟩ ∧ w.cell? ⟨b, o + k * 3, none⟩ = some (.int .i64 l[k].addr) ∧ w.cell? ⟨b, o + k * 3 + 1, none⟩ = some (.int .i64 l[k].size) ∧ w.cell? ⟨b, o + k * 3 + 2, none⟩ = some (.string l[k].data) ∧ b < w.heap.size := by
  obtain ⟨b, o, h1, h2, h3⟩ := h.at'
  have hne : l ≠ [] := by intro e; simp [e] at hk
  exact ⟨b, o, h1 hne, (h2 k hk).1, (h2 k hk).2.1, (h2 k hk).2.2, h3 hne⟩
theorem within_in (w : World) (a : Option Addr) (cap : Nat) (l : List Seg) (h : SegsIn w a l) (hfit : ∀ s ∈ l, s.fits = true) (hlen : l.length < 4611686018427387904) :
    Calls Try.prog 28 #[.slice a l.length cap] w fun e w' => e = .returned (.bool true) ∧ Below w.heap.size w w' := by
  obtain ⟨b, o, h1, h2, h3⟩ := h.at'
  exact within_any w a b o cap l h1 h2 hfit h3 hlen
theorem apart_in (w : World) (a : Option Addr) (cap : Nat) (l : List Seg) (h : SegsIn w a l) (hr : RunsOK l) (hlen : l.length < 4611686018427387904) :
    Calls Try.prog 29 #[.slice a l.length cap] w fun e w' => e = .returned (.bool true) ∧ Below w.heap.size w w' := by
  obtain ⟨b, o, h1, h2, h3⟩ := h.at'
  refine (apart_any w a b o cap l h1 h2 hr hlen).mono ?_
  rintro e w' ⟨rfl, j, rfl⟩
  exact ⟨rfl, ⟨rfl, rfl, rfl, Nat.le_refl _, fun _ _ => rfl⟩⟩

/-- all that Through asks of an image -/
structure Ways (v e : Int) (P : List Seg) (m : Mem) (t ram : ByteArray) (R : List Seg) : Prop where
  pack : ∀ (w : World) a cap, SegsIn w a P → Calls Try.prog 14 #[.int .i64 v, .int .i64 e, .slice a P.length cap] w fun en w' => en = .returned (.tuple #[.string t, .int .i64 0]) ∧ Below w.heap.size w w'
  load : ∀ (w : World), Calls Try.prog 22 #[.string t] w fun en w' => en = .returned (.tuple #[.agg #[.int .i64 v, .int .i64 e, .string ram], .int .i64 0]) ∧ Below w.heap.size w w'
  unpack : ∀ (w : World), Calls Try.prog 17 #[.string t] w fun en w' => ∃ (a : Option Addr) (cap : Nat), en = .returned (.tuple #[.int .i64 v, .int .i64 e, .slice a R.length cap, .int .i64 0]) ∧ SegsIn w' a R ∧ Below w.heap.size w w'
  memory : ∀ (w : World) a cap, SegsIn w a P → Calls Try.prog 27 #[.slice a P.length cap] w fun e w' => e = .returned (.string ram) ∧ Below w.heap.size w w'
  within : ∀ (w : World) a cap, SegsIn w a R → Calls Try.prog 28 #[.slice a R.length cap] w fun e w' => e = .returned (.bool true) ∧ Below w.heap.size w w'
  apart : ∀ (w : World) a cap, SegsIn w a R → Calls Try.prog 29 #[.slice a R.length cap] w fun e w' => e = .returned (.bool true) ∧ Below w.heap.size w w'
  alike : ∀ (w : World) a cap a2 cap2, SegsIn w a R → SegsIn w a2 P → Calls Try.prog 30 #[.slice a R.length cap, .slice a2 P.length cap2] w fun e w' => e = .returned (.bool true) ∧ Below w.heap.size w w'

theorem ways_of {v e : Int} {P : List Seg} {m : Mem} (hM : Made v e m) (hl : layAll P = some m) (hf : ∀ s ∈ P, s.fits = true) (h1 : 1 ≤ P.length) (h6 : P.length ≤ 6) : ∃ t ram R, Ways v e P m t ram R := by
  have hfr := runs_fit hM.wf
  have h8 := hM.few
  have hlr := lay_runs hM.wf hM.clean
  have hu : unpackM (mk (textOf v e (runsOf m))).data.toList = some (v, e, runsOf m) := by rw [mk_data]; exact hM.unpack
  refine ⟨mk (textOf v e (runsOf m)), mk m.byt, runsOf m, ?_, ?_, ?_, ?_, ?_, ?_, ?_⟩
  · exact fun w a cap hs => pack_in w v e a cap P m hs hf hl h1 (by omega) hM
  · exact fun w => twinLoad_any w _ v e 0 (mk m.byt) (fun w => load_some w _ v e (runsOf m) m hu hlr)
  · intro w
    refine (twinUnpack_some w _ v e (runsOf m) hu).mono ?_
    rintro en w' ⟨a, cap, rfl, hown, hb⟩
    exact ⟨a, cap, rfl, SegsIn.of_own hown, hb⟩
  · exact fun w a cap hs => memory_in w a cap P m hs hf hl (by omega)
  · exact fun w a cap hs => within_in w a cap _ hs hfr (by omega)
  · exact fun w a cap hs => apart_in w a cap _ hs (runsOK_of hM.wf hfr) (by omega)
  · exact fun w a cap a2 cap2 hs hs2 => alike_any w a a2 cap cap2 _ _ m hs hs2 hfr hf hlr hl (by omega) (by omega)

set_option maxRecDepth 1000000 in
set_option maxHeartbeats 8000000 in
theorem through_law (w : World) (version entry : Int) (a : Option Addr) (len cap : Nat) (zs : List Int) (s : ByteArray) (hv0 : -9223372036854775808 ≤ version) (hv1 : version < 9223372036854775808) (he0 : -9223372036854775808 ≤ entry) (he1 : entry < 9223372036854775808) (hs : s.size < 4611686018427387904) (h : IntsAt w a len cap zs) :
    Calls Try.prog 7 #[.int .i64 version, .int .i64 entry, .slice a len cap, .string s] w fun e w' => e = .returned (.bool true) ∧ Below w.heap.size w w' := by
  have HP := pieces_any w a len cap zs s hs h
  clear h
  go_enter Try.func7, Try.ntmps7
  go_wp2_with (first
    | (go_at_call 25; refine HP.mono ?_; rintro en w1 ⟨P, a1, cap1, rfl, hown, hPP, hp1, hp6, hb1⟩; clear HP; obtain ⟨m, hl, hf, hsz⟩ := pieces_lay hPP hp6; have S1 := SegsIn.of_own hown; clear hown hPP)
    | (go_at_call 26; refine (pick_any _ version 65536 hv0 hv1 (by omega) (by omega)).mono ?_; rintro en wv ⟨v, rfl, hv2, hv3, rfl⟩; clear hv0 hv1; have t1 : True := trivial)
    | (go_at_call 26; have _t := t1; refine (pick_any _ entry P.length he0 he1 (by omega) (by omega)).mono ?_; rintro en we ⟨k, rfl, hk0, hk1, rfl⟩; clear he0 he1 t1; obtain ⟨k, rfl⟩ : ∃ n : Nat, k = n := ⟨k.toNat, by omega⟩; have hkl : k < P.length := by omega
       obtain ⟨b, o, rfl, hc, _⟩ := S1.nth k hkl; have hM : Made v P[k].addr m := made_of hf hl hsz hp6 hv2 (by omega) (List.getElem_mem hkl) rfl
       obtain ⟨t, ram, R, W⟩ := ways_of hM hl hf hp1 hp6
       generalize P[k].addr = x at *; clear hM hf hl)
    | (go_at_call 14; refine (W.pack _ _ _ S1).mono ?_; rintro en w2 ⟨rfl, hb2⟩; have S2 := S1.kept hb2)
    | (go_at_call 22; refine (W.load _).mono ?_; rintro en w3 ⟨rfl, hb3⟩; have S3 := S2.kept hb3; have hbA := Below.alloc (Below.refl w3.heap.size w3) (Nat.le_refl _) (.cells #[.int .i64 v, .int .i64 x, .string ram] 35); have S3' := S3.kept hbA; have hl3 := heap_alloc_new w3 (.cells #[.int .i64 v, .int .i64 x, .string ram] 35))
    | (go_at_call 17; refine (W.unpack _).mono ?_; rintro en w4 ⟨a4, cap4, rfl, R4, hb4⟩; have S4 := S3'.kept hb4; obtain ⟨hl4, q0, q1, q2, _⟩ := three_cells hb4 hl3)
    | (go_at_call 27; refine (W.memory _ _ _ S4).mono ?_; rintro en w5 ⟨rfl, hb5⟩; have S5 := S4.kept hb5; have R5 := R4.kept hb5; clear q0 q1 q2; obtain ⟨hl5, q0, q1, q2, _⟩ := three_cells hb5 hl4)
    | (go_at_call 28; refine (W.within _ _ _ R5).mono ?_; rintro en w6 ⟨rfl, hb6⟩; have S6 := S5.kept hb6; have R6 := R5.kept hb6; clear q0 q1 q2; obtain ⟨hl6, q0, q1, q2, _⟩ := three_cells hb6 hl5)
    | (go_at_call 29; refine (W.apart _ _ _ R6).mono ?_; rintro en w7 ⟨rfl, hb7⟩; have S7 := S6.kept hb7; have R7 := R6.kept hb7)
    | (go_at_call 30; refine (W.alike _ _ _ _ _ R7 S7).mono ?_; rintro en w8 ⟨rfl, hb8⟩))
  go_ret
  refine ⟨rfl, ?_⟩
  have k2 := hb1.trans (hb2.mono hb1.size)
  have k3 := k2.trans (hb3.mono k2.size)
  have k3' := k3.trans (hbA.mono k3.size)
  have k4 := k3'.trans (hb4.mono k3'.size)
  have k5 := k4.trans (hb5.mono k4.size)
  have k6 := k5.trans (hb6.mono k5.size)
  have k7 := k6.trans (hb7.mono k6.size)
  exact k7.trans (hb8.mono k7.size)
end Go.Proofs.Ytcokahccbjdeaaa
