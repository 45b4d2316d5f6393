import Derived.Test.YtcokahccbjdeaaaDoorPf
import Derived.Test.YtcokahccbjdeaaaDoorTie
import Derived.Test.YtcokahccbjdeaaaDoorCards
namespace Go.Proofs.YtcokahccbjdeaaaDoor
open Go.ChangeShapes Go.WideShapes Go.ChangeAt Go.RowKit Go.Deep
open Go.ChangeMaps (open_string shut_string)

def laid1 {H : Type} : List (String × DataW H) := [("twinboot/store.turns", Rows.laid_twinboot_store_turns)]
theorem gTurns : Tryd.prog.globalNamed "twinboot/store.turns" = some 0 := by kernel_rfl
theorem tTurns : (Tryd.prog.globals[0]?).map (·.type) = some 142 := by kernel_rfl
theorem door_met (os : Os) (args : Array Value) : laidMetH Tryd.prog Rows.takesRow.laid ((World.doorLaid Tryd.prog 14 os).forCall (fun _ _ => 0) ⟨#[], args, []⟩).memory :=
  laidMetH_of_parts3 (fuel := 8) (laidMet_of_run' 8 (by kernel_rfl) (by kernel_rfl)) (by kernel_rfl) (by kernel_rfl)

set_option maxRecDepth 100000 in
theorem of_laid {W : World} (h : laidMetH Tryd.prog Rows.takesRow.laid W) : TurnsAt W := by
  rw [MakeChecks.laidMetH_plain _ _ _ (by kernel_rfl)] at h
  obtain ⟨ps, ⟨g0, t0, cs0, f0, p0, q0, hg0, ht0, hv0, hd0, _, _⟩, _, _⟩ := h
  obtain rfl := Option.some.inj (gTurns.symm.trans hg0)
  obtain rfl := Option.some.inj (tTurns.symm.trans ht0)
  obtain ⟨xs, m1, _, hx1, hlen, hn3, hel⟩ := DataW.trod_array Tryd.underlying142 hd0
  have k0 := hel 0 (by decide)
  have k1 := hel 1 (by decide)
  have k2 := hel 2 (by decide)
  simp only [Rows.laid_twinboot_store_turns, Prod.mk.injEq, DataW.agg.injEq] at hx1
  match xs, hn3, hx1, k0, k1, k2 with
  | [x0, x1, x2], _, hx1, k0, k1, k2 =>
    simp only [List.map_cons, List.map_nil, List.cons.injEq] at hx1
    obtain ⟨a0, e0, d0, _⟩ := DataW.trod_int Tryd.underlying5 (show DataW.trod _ Tryd.prog W 0 _ false m1 5 _ = some x0 from k0)
    obtain ⟨a1, e1, d1, _⟩ := DataW.trod_int Tryd.underlying5 (show DataW.trod _ Tryd.prog W 0 _ false m1 5 _ = some x1 from k1)
    obtain ⟨a2, e2, d2, _⟩ := DataW.trod_int Tryd.underlying5 (show DataW.trod _ Tryd.prog W 0 _ false m1 5 _ = some x2 from k2)
    have h0 : a0 = 254 := by rw [d0] at hx1; simpa using hx1.1.1.symm
    have h1 : a1 = 253 := by rw [d1] at hx1; simpa using hx1.1.2.1.symm
    have h2 : a2 = 251 := by rw [d2] at hx1; simpa using hx1.1.2.2.1.symm
    subst h0 h1 h2
    obtain ⟨l1⟩ := cs0
    rw [Tryd.cells5] at e0 e1 e2
    have v0 := World.var?_cell hg0 hv0 0
    have v1 := World.var?_cell hg0 hv0 1
    have v2 := World.var?_cell hg0 hv0 2
    match l1, e0, e1, e2, v0, v1, v2 with
    | c0 :: c1 :: c2 :: _, e0, e1, e2, v0, v1, v2 =>
      simp at e0 e1 e2
      subst e0 e1 e2
      exact ⟨by simpa using v0, by simpa using v1, by simpa using v2⟩

set_option maxRecDepth 100000 in
theorem takes_lifted (os : Os) (started : os.Started) (H : Type) (enc : TypeId × Value → H) :
    ReturnsInHanded {} Tryd.checked os 3 .any (fun w args => (Rows.takesSpec.pre enc Tryd.prog Tryd.f3 [] false w args ∧ laidMetH Tryd.prog Rows.takesRow.laid w) ∧ sizedMet enc Tryd.prog Tryd.f3 (OpenSpec.ofChange Rows.takesSpec) false w args)
      (Rows.takesSpec.post enc Tryd.prog Tryd.f3 false true false false) := by
  refine returnsInHanded_of_change_and (C := Tryd.checked) (X := fun w _ => laidMetH Tryd.prog Rows.takesRow.laid w) (fun _ _ _ hh h => h.of_heap hh) ownN started (by kernel_rfl) Tryd.func3
    (ChangeSpec.witness_shaped (enc := enc) (C := Tryd.checked) (os := os) (X := fun w _ => laidMetH Tryd.prog Rows.takesRow.laid w) false (World.doorLaid Tryd.prog 14 os) #[.slice none 0 0] 8 rfl (World.shaped_of_RefB (by kernel_rfl) (by kernel_rfl)) (by kernel_rfl) (by kernel_rfl) (by kernel_rfl) (door_met os _)) ?_
  intro W base args ds gs before hval0 hW hq1 hq2 hL hq3
  have hval : ∀ (j : Nat) t v, Tryd.f3.params[j]? = some t → args[j]? = some v → Value.okWide Tryd.prog W .any base t v := hval0
  have hW' := hW
  obtain ⟨p, q, hA0, hV, rfl, hfz, hnd⟩ := hW
  have hA : DataW.TrodAll enc Tryd.prog W 0 (fun _ => true) true Tryd.f3.params.toList args.toList ds p := hA0
  rw [Tryd.params3] at hA hval
  obtain ⟨v0, d0, rfl, rfl, h0⟩ := trodAll_one hA
  obtain ⟨rfl, rfl⟩ := trodVars_none hV
  have k0 := h0
  have lt0 : ∀ x ∈ p, x.block < W.heap.size := by obtain ⟨m, hm⟩ := k0; exact DataW.trod_lt m _ _ _ hm
  have hsz : (DataW.weightsEach Tryd.prog (Tryd.f3.params.toList ++ Rows.takesSpec.plain.varTypes Tryd.prog) ([d0] ++ [])).all (· ≤ reachBytes) = true := hq2
  rw [Tryd.params3] at hsz
  have hw0 : ∀ x ∈ d0.weights Tryd.prog 22, x ≤ reachBytes := by
    intro x hx
    have := List.all_eq_true.1 hsz x (by simp [DataW.weightsEach, hx])
    simpa using this
  obtain ⟨a, b, o, cap, l, rfl, ha, hl, hok, hb, hlen⟩ := open_ops (okWide_slice Tryd.underlying22 (hval 0 22 v0 rfl rfl)) h0 hw0
  clear hA0 hval0
  refine (takes_law W a b o cap l ha hl hb hok (by omega) (of_laid hL)).mono fun e W' ⟨he, bel⟩ => ?_
  subst he
  exact ⟨_, rfl, _, _, _, [], _, [], hW', trodAll_mk1 (shut_bool Tryd.underlying4 _), trodAll_cons_mk (Below.trod laidOutN (by kernel_rfl) (of_decide_eq_true (by kernel_rfl)) k0 bel lt0) trodAll_mk0, rfl, bel.frame _, fun h => by cases h⟩

theorem takes_row : Rows.TakesSaid :=
  OpenClaim.holds_of_wide 3 Tryd.f3 rfl rfl rfl rfl rfl rfl rfl ⟨rfl, rfl, rfl, rfl, rfl⟩ rfl rfl rfl rfl rfl (by kernel_rfl) Tryd.func3 (by kernel_rfl)
    (of_decide_eq_true (by kernel_rfl)) (by unfold Func.isWrapper; first | (rw [if_pos (by decide +kernel)]; kernel_rfl) | (rw [if_neg (by decide +kernel)]; exact ⟨rfl, rfl⟩))
    (fun os started H enc _ => takes_lifted os started H enc)
theorem takes_proved : Rows.TakesCardSaid :=
  Claim7.holds_tied_plain_at .later [] [.data] true (true, "7aa086ccebd60d24d2985f5a05332f8e3dbd2f92fe44a0663a861f46e99aded7") false
    takes_row (fun _ h => by cases h) (by kernel_rfl) (fun _ h => by cases h) takes_row_tie rfl ⟨rfl, rfl⟩ (by kernel_rfl) rfl
    (fun f fn hf hfn => by
      obtain rfl : f = 3 := Option.some.inj ((show Tryd.prog.funcNamed "twinboot/twinbootlaw.Takes" = some 3 by kernel_rfl).symm.trans hf) |>.symm
      obtain rfl : fn = Tryd.f3 := (Option.some.inj (Tryd.func3.symm.trans hfn)).symm
      exact ⟨by kernel_rfl, fun j t ht => by
        rw [Tryd.params3] at ht
        have h3 : t = 22 := by
          rcases j with _ | j
          · simpa using ht.symm
          · simp at ht
        subst h3
        exact (show Tryd.prog.wantsStandIn 22 = false by kernel_rfl)⟩)
    (by kernel_rfl)
#print axioms takes_proved
end Go.Proofs.YtcokahccbjdeaaaDoor
