import Derived.Test.YtcokahccbjdeaabDoorWhB
import Derived.Test.YtcokahccbjdeaabDoorTie
import Derived.Test.YtcokahccbjdeaabDoorCards
import Derived.ChangeSlices
import Derived.ProofKit
import Derived.OpenShut
import Derived.ShutString
import Derived.ChangeOld
import Derived.SizedLaws
import Derived.Deep.Slices
import Derived.Deep.Strs
import Derived.LaidMore
import Derived.Stop.Joined
namespace Go.Proofs.YtcokahccbjdeaabDoor
open Go.ChangeShapes Go.WideShapes Go.ChangeAt Go.RowKit Go.Deep
open Go.ChangeMaps (open_string shut_string)

theorem ownN : ownKnob Tryd.prog.godebug = none := by kernel_rfl
theorem laidOutN : laidOutB Tryd.prog = true := by kernel_rfl
theorem Tryd.cells3 : Tryd.prog.cellsOf 3 = 1 := by kernel_rfl
theorem Tryd.cells5 : Tryd.prog.cellsOf 5 = 1 := by kernel_rfl
theorem wf_i64 {x : Int} (h : (Lit.int .i64 x).wf = true) : -9223372036854775808 ≤ x ∧ x < 9223372036854775808 := by
  simp [Lit.wf, IntKind.min, IntKind.max, IntKind.signed, IntKind.bits] at h
  omega

def laidC1 {H : Type} : List (String × DataW H) := [("twinboot/store.turns", Rows.laid_twinboot_store_turns)]
theorem gTurnsC : Tryd.prog.globalNamed "twinboot/store.turns" = some 0 := by kernel_rfl
theorem tTurnsC : (Tryd.prog.globals[0]?).map (·.type) = some 105 := by kernel_rfl
theorem door_metC (os : Os) (args : Array Value) : laidMetH Tryd.prog Rows.whateverRow.laid ((World.doorLaid Tryd.prog 14 os).forCall (fun _ _ => 0) ⟨#[], args, []⟩).memory :=
  laidMetH_of_parts3 (fuel := 8) (laidMet_of_run' 8 (by kernel_rfl) (by kernel_rfl)) (by kernel_rfl) (by kernel_rfl)

set_option maxRecDepth 100000 in
theorem of_laidC {W : World} (h : laidMetH Tryd.prog Rows.whateverRow.laid W) : TurnsAt W := by
  rw [MakeChecks.laidMetH_plain _ _ _ (by kernel_rfl)] at h
  obtain ⟨ps, ⟨g0, t0, cs0, f0, p0, q0, hg0, ht0, hv0, hd0, _, _⟩, _, _⟩ := h
  obtain rfl := Option.some.inj (gTurnsC.symm.trans hg0)
  obtain rfl := Option.some.inj (tTurnsC.symm.trans ht0)
  obtain ⟨xs, m1, _, hx1, hlen, hn3, hel⟩ := DataW.trod_array Tryd.underlying105 hd0
  have k0 := hel 0 (by decide)
  have k1 := hel 1 (by decide)
  have k2 := hel 2 (by decide)
  simp only [Rows.laid_twinboot_store_turns, Prod.mk.injEq, DataW.agg.injEq] at hx1
  match xs, hn3, hx1, k0, k1, k2 with
  | [x0, x1, x2], _, hx1, k0, k1, k2 =>
    simp only [List.map_cons, List.map_nil, List.cons.injEq] at hx1
    obtain ⟨a0, e0, d0, _⟩ := DataW.trod_int Tryd.underlying5 (show DataW.trod _ Tryd.prog W 0 _ false m1 5 _ = some x0 from k0)
    obtain ⟨a1, e1, d1, _⟩ := DataW.trod_int Tryd.underlying5 (show DataW.trod _ Tryd.prog W 0 _ false m1 5 _ = some x1 from k1)
    obtain ⟨a2, e2, d2, _⟩ := DataW.trod_int Tryd.underlying5 (show DataW.trod _ Tryd.prog W 0 _ false m1 5 _ = some x2 from k2)
    have h0 : a0 = 254 := by rw [d0] at hx1; simpa using hx1.1.1.symm
    have h1 : a1 = 253 := by rw [d1] at hx1; simpa using hx1.1.2.1.symm
    have h2 : a2 = 251 := by rw [d2] at hx1; simpa using hx1.1.2.2.1.symm
    subst h0 h1 h2
    obtain ⟨l1⟩ := cs0
    rw [Tryd.cells5] at e0 e1 e2
    have v0 := World.var?_cell hg0 hv0 0
    have v1 := World.var?_cell hg0 hv0 1
    have v2 := World.var?_cell hg0 hv0 2
    match l1, e0, e1, e2, v0, v1, v2 with
    | c0 :: c1 :: c2 :: _, e0, e1, e2, v0, v1, v2 =>
      simp at e0 e1 e2
      subst e0 e1 e2
      exact ⟨by simpa using v0, by simpa using v1, by simpa using v2⟩

theorem Tryd.bytes3 : Tryd.prog.bytesOf 3 = 8 := by kernel_rfl
theorem lits_length {H : Type} (k : IntKind) (l : List Int) : (Go.ChangeShapes.lits (H := H) k l).length = l.length := by simp [Go.ChangeShapes.lits]

/-- a slice of whole numbers that came in, as a statement's argument -/
theorem open_nums {H : Type} {enc : TypeId × Value → H} {W : World} {v : Value} {d : DataW H} {p : List MemPlace} (hv : ∃ a len cap, v = .slice a len cap) (h : DataW.Trod enc Tryd.prog W 0 (fun _ => true) true 34 v d p)
    (hw : ∀ x ∈ d.weights Tryd.prog 34, x ≤ reachBytes) :
    ∃ (a : Option Addr) (len cap : Nat) (zs : List Int), v = .slice a len cap ∧ IntsAt W a len cap zs ∧ len ≤ 17592186044416 := by
  obtain ⟨a, len, cap, rfl⟩ := hv
  obtain ⟨fuel, hf⟩ := h
  rcases Go.ChangeShapes.open_ints Tryd.underlying34 Tryd.underlying3 Tryd.cells3 hf with ⟨hcs, hx⟩ | ⟨ad, len', cap', zs, hcs, _, hlc, hm1, hzl, hx, hel, hwf⟩
  · simp [Value.cells] at hcs
    obtain ⟨rfl, rfl, rfl⟩ := hcs
    exact ⟨none, 0, 0, [], rfl, ⟨by simp, by omega, by simp, fun i hi => by omega⟩, by omega⟩
  · simp [Value.cells] at hcs
    obtain ⟨rfl, rfl, rfl⟩ := hcs
    simp only [if_true] at hzl
    have hd : d = .slice (Go.ChangeShapes.lits .i64 (zs.take len)) (Go.ChangeShapes.lits .i64 (zs.drop len)) := congrArg Prod.fst hx
    have hsz : (zs.take len).length * 8 ≤ reachBytes := by
      have := hw (((Go.ChangeShapes.lits (H := H) .i64 (zs.take len)).length + (Go.ChangeShapes.lits (H := H) .i64 (zs.drop len)).length) * Tryd.prog.bytesOf 3) (by
        rw [hd]; simp only [DataW.weights, Tryd.underlying34]; exact List.mem_cons_self)
      rw [Tryd.bytes3, lits_length, lits_length] at this
      omega
    have h2 : reachBytes = 140737488351232 := rfl
    rw [List.length_take] at hsz
    refine ⟨some ad, len, cap, zs, rfl, ⟨by omega, by omega, fun n hn => wf_i64 (hwf n hn), ?_⟩, by omega⟩
    intro i hi
    have hc := hel i (by omega)
    obtain ⟨b, o, spot⟩ := ad
    have hs : spot = none := by
      have := World.cell?_spot (hel 0 (by omega))
      simpa [Addr.add] using this
    subst hs
    have ea : ∀ j, (⟨b, o, none⟩ : Addr).add j = ⟨b, o + j, none⟩ := fun j => by cases j <;> simp [Addr.add]
    rw [ea] at hc
    exact ⟨b, o, rfl, hc, World.block_lt_of_cell? W _ hc⟩

set_option maxRecDepth 100000 in
theorem whatever_lifted (os : Os) (started : os.Started) (H : Type) (enc : TypeId × Value → H) :
    ReturnsInHanded {} Tryd.checked os 4 .any (fun w args => (Rows.whateverSpec.pre enc Tryd.prog Tryd.f4 [] false w args ∧ laidMetH Tryd.prog Rows.whateverRow.laid w) ∧ sizedMet enc Tryd.prog Tryd.f4 (OpenSpec.ofChange Rows.whateverSpec) false w args)
      (Rows.whateverSpec.post enc Tryd.prog Tryd.f4 false true false false) := by
  refine returnsInHanded_of_change_and (C := Tryd.checked) (X := fun w _ => laidMetH Tryd.prog Rows.whateverRow.laid w) (fun _ _ _ hh h => h.of_heap hh) ownN started (by kernel_rfl) Tryd.func4
    (ChangeSpec.witness_shaped (enc := enc) (C := Tryd.checked) (os := os) (X := fun w _ => laidMetH Tryd.prog Rows.whateverRow.laid w) false (World.doorLaid Tryd.prog 14 os) #[.string ⟨#[]⟩, .string ⟨#[]⟩, .slice none 0 0] 8 rfl (World.shaped_of_RefB (by kernel_rfl) (by kernel_rfl)) (by kernel_rfl) (by kernel_rfl) (by kernel_rfl) (door_metC os _)) ?_
  intro W base args ds gs before hval0 hW hq1 hq2 hL hq3
  have hval : ∀ (j : Nat) t v, Tryd.f4.params[j]? = some t → args[j]? = some v → Value.okWide Tryd.prog W .any base t v := hval0
  have hW' := hW
  obtain ⟨p, q, hA0, hV, rfl, hfz, hnd⟩ := hW
  have hA : DataW.TrodAll enc Tryd.prog W 0 (fun _ => true) true Tryd.f4.params.toList args.toList ds p := hA0
  have hsz : (DataW.weightsEach Tryd.prog (Tryd.f4.params.toList ++ Rows.whateverSpec.plain.varTypes Tryd.prog) (ds ++ gs)).all (· ≤ reachBytes) = true := hq2
  rw [Tryd.params4] at hA hval hsz
  obtain ⟨v0, vs0, d0, ds0, p0, q0, hargs, rfl, rfl, h0, r0⟩ := trodAll_cons hA
  obtain ⟨v1, vs1, d1, ds1, p1, q1, rfl, rfl, rfl, h1, r1⟩ := trodAll_cons r0
  obtain ⟨v2, vs2, d2, ds2, p2, q2, rfl, rfl, rfl, h2, r2⟩ := trodAll_cons r1
  obtain ⟨rfl, rfl, rfl⟩ := trodAll_nil r2
  obtain rfl : args = #[v0, v1, v2] := by cases args; simp_all
  obtain ⟨rfl, rfl⟩ := trodVars_none hV
  obtain ⟨s0, rfl, rfl, rfl, hs0⟩ := open_string Tryd.underlying9 (hval 0 9 v0 rfl rfl) h0
  obtain ⟨s1, rfl, rfl, rfl, hs1⟩ := open_string Tryd.underlying9 (hval 1 9 v1 rfl rfl) h1
  have k2 := h2
  have lt2 : ∀ x ∈ p2, x.block < W.heap.size := by obtain ⟨m, hm⟩ := k2; exact DataW.trod_lt m _ _ _ hm
  have hw2 : ∀ x ∈ d2.weights Tryd.prog 34, x ≤ reachBytes := by
    intro x hx
    have := List.all_eq_true.1 hsz x (by simp [DataW.weightsEach, DataW.weights, hx])
    simpa using this
  have hlen0 : s0.size < 4611686018427387904 := by
    have h1 : s0.data.toList.length ≤ reachBytes := by
      have := List.all_eq_true.1 hsz s0.data.toList.length (by simp [DataW.weightsEach, DataW.weights])
      simpa using this
    have h2 : s0.data.toList.length = s0.size := rfl
    have := reachBytes_lt
    omega
  have hlen1 : s1.size < 4611686018427387904 := by
    have h1 : s1.data.toList.length ≤ reachBytes := by
      have := List.all_eq_true.1 hsz s1.data.toList.length (by simp [DataW.weightsEach, DataW.weights])
      simpa using this
    have h2 : s1.data.toList.length = s1.size := rfl
    have := reachBytes_lt
    omega
  obtain ⟨a, len, cap, zs, rfl, hI, hlen⟩ := open_nums (okWide_slice Tryd.underlying34 (hval 2 34 v2 rfl rfl)) h2 hw2
  clear hA0 hval0
  refine (whatever_law W s0 s1 a len cap zs hI hlen (of_laidC hL) hlen0 hlen1).mono fun e W' ⟨he, bel⟩ => ?_
  subst he
  exact ⟨_, rfl, _, _, _, [], _, [], hW', trodAll_mk1 (shut_bool Tryd.underlying4 _), (trodAll_cons_mk (shut_string Tryd.underlying9 hs0) (trodAll_cons_mk (shut_string Tryd.underlying9 hs1) (trodAll_cons_mk (Below.trod laidOutN (by kernel_rfl) (of_decide_eq_true (by kernel_rfl)) k2 bel lt2) trodAll_mk0))), rfl, bel.frame _, fun h => by cases h⟩

theorem whatever_row : Rows.WhateverSaid :=
  OpenClaim.holds_of_wide 4 Tryd.f4 rfl rfl rfl rfl rfl rfl rfl ⟨rfl, rfl, rfl, rfl, rfl⟩ rfl rfl rfl rfl rfl (by kernel_rfl) Tryd.func4 (by kernel_rfl)
    (of_decide_eq_true (by kernel_rfl)) (by unfold Func.isWrapper; first | (rw [if_pos (by decide +kernel)]; kernel_rfl) | (rw [if_neg (by decide +kernel)]; exact ⟨rfl, rfl⟩))
    (fun os started H enc _ => whatever_lifted os started H enc)
theorem whatever_proved : Rows.WhateverCardSaid :=
  Claim7.holds_tied_plain_at .later [] [.data] true (true, "47ee37c04394a11317cea033434fc50f0fae85ed0302b377f8fe0875659927a3") false
    whatever_row (fun _ h => by cases h) (by kernel_rfl) (fun _ h => by cases h) whatever_row_tie rfl ⟨rfl, rfl⟩ (by kernel_rfl) rfl
    (fun f fn hf hfn => by
      obtain rfl : f = 4 := Option.some.inj ((show Tryd.prog.funcNamed "twinboot/twinbootkeep.Whatever" = some 4 by kernel_rfl).symm.trans hf) |>.symm
      obtain rfl : fn = Tryd.f4 := (Option.some.inj (Tryd.func4.symm.trans hfn)).symm
      exact ⟨by kernel_rfl, fun j t ht => by
        rw [Tryd.params4] at ht
        have h3 : t = 9 ∨ t = 34 := by
          rcases j with _ | _ | _ | j
          · left; simpa using ht.symm
          · left; simpa using ht.symm
          · right; simpa using ht.symm
          · simp at ht
        rcases h3 with rfl | rfl
        · exact (show Tryd.prog.wantsStandIn 9 = false by kernel_rfl)
        · exact (show Tryd.prog.wantsStandIn 34 = false by kernel_rfl)⟩)
    (by kernel_rfl)
#print axioms whatever_proved
end Go.Proofs.YtcokahccbjdeaabDoor
