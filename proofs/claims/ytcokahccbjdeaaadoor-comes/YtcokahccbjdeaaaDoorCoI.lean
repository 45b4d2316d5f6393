import Derived.Test.YtcokahccbjdeaaaDoorCoH
import Derived.Test.YtcokahccbjdeaaaDoorTie
import Derived.Test.YtcokahccbjdeaaaDoorCards
import Derived.ChangeSlices
import Derived.ProofKit
import Derived.OpenShut
import Derived.ShutString
import Derived.ChangeOld
import Derived.SizedLaws
import Derived.Deep.Slices
import Derived.Deep.Strs
import Derived.LaidMore
import Derived.Stop.Joined
namespace Go.Proofs.YtcokahccbjdeaaaDoor
open Go.ChangeShapes Go.WideShapes Go.ChangeAt Go.RowKit Go.Deep
open Go.ChangeMaps (open_string shut_string)

theorem ownN : ownKnob Tryd.prog.godebug = none := by kernel_rfl
theorem laidOutN : laidOutB Tryd.prog = true := by kernel_rfl
theorem Tryd.cells3 : Tryd.prog.cellsOf 3 = 1 := by kernel_rfl
theorem Tryd.cells5 : Tryd.prog.cellsOf 5 = 1 := by kernel_rfl
theorem wf_i64 {x : Int} (h : (Lit.int .i64 x).wf = true) : -9223372036854775808 ≤ x ∧ x < 9223372036854775808 := by
  simp [Lit.wf, IntKind.min, IntKind.max, IntKind.signed, IntKind.bits] at h
  omega

def laidC1 {H : Type} : List (String × DataW H) := [("twinboot/store.turns", Rows.laid_twinboot_store_turns)]
theorem gTurnsC : Tryd.prog.globalNamed "twinboot/store.turns" = some 0 := by kernel_rfl
theorem tTurnsC : (Tryd.prog.globals[0]?).map (·.type) = some 142 := by kernel_rfl
theorem door_metC (os : Os) (args : Array Value) : laidMetH Tryd.prog Rows.comesRow.laid ((World.doorLaid Tryd.prog 14 os).forCall (fun _ _ => 0) ⟨#[], args, []⟩).memory :=
  laidMetH_of_parts3 (fuel := 8) (laidMet_of_run' 8 (by kernel_rfl) (by kernel_rfl)) (by kernel_rfl) (by kernel_rfl)

set_option maxRecDepth 100000 in
theorem of_laidC {W : World} (h : laidMetH Tryd.prog Rows.comesRow.laid W) : TurnsAt W := by
  rw [MakeChecks.laidMetH_plain _ _ _ (by kernel_rfl)] at h
  obtain ⟨ps, ⟨g0, t0, cs0, f0, p0, q0, hg0, ht0, hv0, hd0, _, _⟩, _, _⟩ := h
  obtain rfl := Option.some.inj (gTurnsC.symm.trans hg0)
  obtain rfl := Option.some.inj (tTurnsC.symm.trans ht0)
  obtain ⟨xs, m1, _, hx1, hlen, hn3, hel⟩ := DataW.trod_array Tryd.underlying142 hd0
  have k0 := hel 0 (by decide)
  have k1 := hel 1 (by decide)
  have k2 := hel 2 (by decide)
  simp only [Rows.laid_twinboot_store_turns, Prod.mk.injEq, DataW.agg.injEq] at hx1
  match xs, hn3, hx1, k0, k1, k2 with
  | [x0, x1, x2], _, hx1, k0, k1, k2 =>
    simp only [List.map_cons, List.map_nil, List.cons.injEq] at hx1
    obtain ⟨a0, e0, d0, _⟩ := DataW.trod_int Tryd.underlying5 (show DataW.trod _ Tryd.prog W 0 _ false m1 5 _ = some x0 from k0)
    obtain ⟨a1, e1, d1, _⟩ := DataW.trod_int Tryd.underlying5 (show DataW.trod _ Tryd.prog W 0 _ false m1 5 _ = some x1 from k1)
    obtain ⟨a2, e2, d2, _⟩ := DataW.trod_int Tryd.underlying5 (show DataW.trod _ Tryd.prog W 0 _ false m1 5 _ = some x2 from k2)
    have h0 : a0 = 254 := by rw [d0] at hx1; simpa using hx1.1.1.symm
    have h1 : a1 = 253 := by rw [d1] at hx1; simpa using hx1.1.2.1.symm
    have h2 : a2 = 251 := by rw [d2] at hx1; simpa using hx1.1.2.2.1.symm
    subst h0 h1 h2
    obtain ⟨l1⟩ := cs0
    rw [Tryd.cells5] at e0 e1 e2
    have v0 := World.var?_cell hg0 hv0 0
    have v1 := World.var?_cell hg0 hv0 1
    have v2 := World.var?_cell hg0 hv0 2
    match l1, e0, e1, e2, v0, v1, v2 with
    | c0 :: c1 :: c2 :: _, e0, e1, e2, v0, v1, v2 =>
      simp at e0 e1 e2
      subst e0 e1 e2
      exact ⟨by simpa using v0, by simpa using v1, by simpa using v2⟩

theorem Tryd.bytes3 : Tryd.prog.bytesOf 3 = 8 := by kernel_rfl
theorem lits_length {H : Type} (k : IntKind) (l : List Int) : (Go.ChangeShapes.lits (H := H) k l).length = l.length := by simp [Go.ChangeShapes.lits]

/-- a slice of whole numbers that came in, as a statement's argument -/
theorem open_nums {H : Type} {enc : TypeId × Value → H} {W : World} {v : Value} {d : DataW H} {p : List MemPlace} (hv : ∃ a len cap, v = .slice a len cap) (h : DataW.Trod enc Tryd.prog W 0 (fun _ => true) true 25 v d p)
    (hw : ∀ x ∈ d.weights Tryd.prog 25, x ≤ reachBytes) :
    ∃ (a : Option Addr) (len cap : Nat) (zs : List Int), v = .slice a len cap ∧ IntsAt W a len cap zs := by
  obtain ⟨a, len, cap, rfl⟩ := hv
  obtain ⟨fuel, hf⟩ := h
  rcases Go.ChangeShapes.open_ints Tryd.underlying25 Tryd.underlying3 Tryd.cells3 hf with ⟨hcs, hx⟩ | ⟨ad, len', cap', zs, hcs, _, hlc, hm1, hzl, hx, hel, hwf⟩
  · simp [Value.cells] at hcs
    obtain ⟨rfl, rfl, rfl⟩ := hcs
    exact ⟨none, 0, 0, [], rfl, by simp, by omega, by simp, fun i hi => by omega⟩
  · simp [Value.cells] at hcs
    obtain ⟨rfl, rfl, rfl⟩ := hcs
    simp only [if_true] at hzl
    have hd : d = .slice (Go.ChangeShapes.lits .i64 (zs.take len)) (Go.ChangeShapes.lits .i64 (zs.drop len)) := congrArg Prod.fst hx
    have hsz : (zs.take len).length * 8 ≤ reachBytes := by
      have := hw (((Go.ChangeShapes.lits (H := H) .i64 (zs.take len)).length + (Go.ChangeShapes.lits (H := H) .i64 (zs.drop len)).length) * Tryd.prog.bytesOf 3) (by
        rw [hd]; simp only [DataW.weights, Tryd.underlying25]; exact List.mem_cons_self)
      rw [Tryd.bytes3, lits_length, lits_length] at this
      omega
    have h2 : reachBytes = 140737488351232 := rfl
    rw [List.length_take] at hsz
    refine ⟨some ad, len, cap, zs, rfl, by omega, by omega, fun n hn => wf_i64 (hwf n hn), ?_⟩
    intro i hi
    have hc := hel i (by omega)
    obtain ⟨b, o, spot⟩ := ad
    have hs : spot = none := by
      have := World.cell?_spot (hel 0 (by omega))
      simpa [Addr.add] using this
    subst hs
    have ea : ∀ j, (⟨b, o, none⟩ : Addr).add j = ⟨b, o + j, none⟩ := fun j => by cases j <;> simp [Addr.add]
    rw [ea] at hc
    exact ⟨b, o, rfl, hc, World.block_lt_of_cell? W _ hc⟩

set_option maxRecDepth 100000 in
theorem comes_lifted (os : Os) (started : os.Started) (H : Type) (enc : TypeId × Value → H) :
    ReturnsInHanded {} Tryd.checked os 5 .any (fun w args => (Rows.comesSpec.pre enc Tryd.prog Tryd.f5 [] false w args ∧ laidMetH Tryd.prog Rows.comesRow.laid w) ∧ sizedMet enc Tryd.prog Tryd.f5 (OpenSpec.ofChange Rows.comesSpec) false w args)
      (Rows.comesSpec.post enc Tryd.prog Tryd.f5 false true false false) := by
  refine returnsInHanded_of_change_and (C := Tryd.checked) (X := fun w _ => laidMetH Tryd.prog Rows.comesRow.laid w) (fun _ _ _ hh h => h.of_heap hh) ownN started (by kernel_rfl) Tryd.func5
    (ChangeSpec.witness_shaped (enc := enc) (C := Tryd.checked) (os := os) (X := fun w _ => laidMetH Tryd.prog Rows.comesRow.laid w) false (World.doorLaid Tryd.prog 14 os) #[.slice none 0 0] 8 rfl (World.shaped_of_RefB (by kernel_rfl) (by kernel_rfl)) (by kernel_rfl) (by kernel_rfl) (by kernel_rfl) (door_metC os _)) ?_
  intro W base args ds gs before hval0 hW hq1 hq2 hL hq3
  have hval : ∀ (j : Nat) t v, Tryd.f5.params[j]? = some t → args[j]? = some v → Value.okWide Tryd.prog W .any base t v := hval0
  have hW' := hW
  obtain ⟨p, q, hA0, hV, rfl, hfz, hnd⟩ := hW
  have hA : DataW.TrodAll enc Tryd.prog W 0 (fun _ => true) true Tryd.f5.params.toList args.toList ds p := hA0
  rw [Tryd.params5] at hA hval
  obtain ⟨v0, d0, rfl, rfl, h0⟩ := trodAll_one hA
  obtain ⟨rfl, rfl⟩ := trodVars_none hV
  have k0 := h0
  have lt0 : ∀ x ∈ p, x.block < W.heap.size := by obtain ⟨m, hm⟩ := k0; exact DataW.trod_lt m _ _ _ hm
  have hsz : (DataW.weightsEach Tryd.prog (Tryd.f5.params.toList ++ Rows.comesSpec.plain.varTypes Tryd.prog) ([d0] ++ [])).all (· ≤ reachBytes) = true := hq2
  rw [Tryd.params5] at hsz
  have hw0 : ∀ x ∈ d0.weights Tryd.prog 25, x ≤ reachBytes := by
    intro x hx
    have := List.all_eq_true.1 hsz x (by simp [DataW.weightsEach, hx])
    simpa using this
  obtain ⟨a, len, cap, zs, rfl, hI⟩ := open_nums (okWide_slice Tryd.underlying25 (hval 0 25 v0 rfl rfl)) h0 hw0
  clear hA0 hval0
  refine (comes_law W a len cap zs hI (of_laidC hL)).mono fun e W' ⟨he, bel⟩ => ?_
  subst he
  exact ⟨_, rfl, _, _, _, [], _, [], hW', trodAll_mk1 (shut_bool Tryd.underlying4 _), trodAll_cons_mk (Below.trod laidOutN (by kernel_rfl) (of_decide_eq_true (by kernel_rfl)) k0 bel lt0) trodAll_mk0, rfl, bel.frame _, fun h => by cases h⟩

theorem comes_row : Rows.ComesSaid :=
  OpenClaim.holds_of_wide 5 Tryd.f5 rfl rfl rfl rfl rfl rfl rfl ⟨rfl, rfl, rfl, rfl, rfl⟩ rfl rfl rfl rfl rfl (by kernel_rfl) Tryd.func5 (by kernel_rfl)
    (of_decide_eq_true (by kernel_rfl)) (by unfold Func.isWrapper; first | (rw [if_pos (by decide +kernel)]; kernel_rfl) | (rw [if_neg (by decide +kernel)]; exact ⟨rfl, rfl⟩))
    (fun os started H enc _ => comes_lifted os started H enc)
theorem comes_proved : Rows.ComesCardSaid :=
  Claim7.holds_tied_plain_at .later [] [.data] true (true, "7aa086ccebd60d24d2985f5a05332f8e3dbd2f92fe44a0663a861f46e99aded7") false
    comes_row (fun _ h => by cases h) (by kernel_rfl) (fun _ h => by cases h) comes_row_tie rfl ⟨rfl, rfl⟩ (by kernel_rfl) rfl
    (fun f fn hf hfn => by
      obtain rfl : f = 5 := Option.some.inj ((show Tryd.prog.funcNamed "twinboot/twinbootkeep.Comes" = some 5 by kernel_rfl).symm.trans hf) |>.symm
      obtain rfl : fn = Tryd.f5 := (Option.some.inj (Tryd.func5.symm.trans hfn)).symm
      exact ⟨by kernel_rfl, fun j t ht => by
        rw [Tryd.params5] at ht
        have h3 : t = 25 := by
          rcases j with _ | j
          · simpa using ht.symm
          · simp at ht
        subst h3
        exact (show Tryd.prog.wantsStandIn 25 = false by kernel_rfl)⟩)
    (by kernel_rfl)
#print axioms comes_proved
end Go.Proofs.YtcokahccbjdeaaaDoor
