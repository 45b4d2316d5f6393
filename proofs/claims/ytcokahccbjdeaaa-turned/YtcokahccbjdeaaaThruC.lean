import Derived.Test.YtcokahccbjdeaaaThruB
import Derived.Test.YtcokahccbjdeaaaLawD
import Derived.ChangeSlices
namespace Go.Proofs.Ytcokahccbjdeaaa
open Go.ChangeShapes Go.WideShapes Go.ChangeAt Go.RowKit Go.Deep
open Go.ChangeMaps (open_string shut_string)

theorem Try.bytes3 : Try.prog.bytesOf 3 = 8 := by kernel_rfl
theorem lits_length {H : Type} (k : IntKind) (l : List Int) : (Go.ChangeShapes.lits (H := H) k l).length = l.length := by simp [Go.ChangeShapes.lits]

/-- a slice of whole numbers that came in, as a statement's argument -/
theorem open_nums {H : Type} {enc : TypeId × Value → H} {W : World} {v : Value} {d : DataW H} {p : List MemPlace} (hv : ∃ a len cap, v = .slice a len cap) (h : DataW.Trod enc Try.prog W 0 (fun _ => true) true 39 v d p)
    (hw : ∀ x ∈ d.weights Try.prog 39, x ≤ reachBytes) :
    ∃ (a : Option Addr) (len cap : Nat) (zs : List Int), v = .slice a len cap ∧ IntsAt W a len cap zs := by
  obtain ⟨a, len, cap, rfl⟩ := hv
  obtain ⟨fuel, hf⟩ := h
  rcases Go.ChangeShapes.open_ints Try.underlying39 Try.underlying3 Try.cells3 hf with ⟨hcs, hx⟩ | ⟨ad, len', cap', zs, hcs, _, hlc, hm1, hzl, hx, hel, hwf⟩
  · simp [Value.cells] at hcs
    obtain ⟨rfl, rfl, rfl⟩ := hcs
    exact ⟨none, 0, 0, [], rfl, by simp, by omega, by simp, fun i hi => by omega⟩
  · simp [Value.cells] at hcs
    obtain ⟨rfl, rfl, rfl⟩ := hcs
    simp only [if_true] at hzl
    have hd : d = .slice (Go.ChangeShapes.lits .i64 (zs.take len)) (Go.ChangeShapes.lits .i64 (zs.drop len)) := congrArg Prod.fst hx
    have hsz : (zs.take len).length * 8 ≤ reachBytes := by
      have := hw (((Go.ChangeShapes.lits (H := H) .i64 (zs.take len)).length + (Go.ChangeShapes.lits (H := H) .i64 (zs.drop len)).length) * Try.prog.bytesOf 3) (by
        rw [hd]; simp only [DataW.weights, Try.underlying39]; exact List.mem_cons_self)
      rw [Try.bytes3, lits_length, lits_length] at this
      omega
    have h2 : reachBytes = 140737488351232 := rfl
    rw [List.length_take] at hsz
    refine ⟨some ad, len, cap, zs, rfl, by omega, by omega, fun n hn => wf_i64 (hwf n hn), ?_⟩
    intro i hi
    have hc := hel i (by omega)
    obtain ⟨b, o, spot⟩ := ad
    have hs : spot = none := by
      have := World.cell?_spot (hel 0 (by omega))
      simpa [Addr.add] using this
    subst hs
    have ea : ∀ j, (⟨b, o, none⟩ : Addr).add j = ⟨b, o + j, none⟩ := fun j => by cases j <;> simp [Addr.add]
    rw [ea] at hc
    exact ⟨b, o, rfl, hc, World.block_lt_of_cell? W _ hc⟩

set_option maxRecDepth 100000 in
theorem through_lifted (os : Os) (started : os.Started) (H : Type) (enc : TypeId × Value → H) :
    ReturnsInHanded {} Try.checked os 7 .any (Rows.throughSpec.pre6 enc Try.prog Try.f7 Rows.throughRow.domain false) (Rows.throughSpec.post enc Try.prog Try.f7 false true false false) := by
  refine returnsInHanded_of_change_sized (C := Try.checked) ownN started (by kernel_rfl) Try.func7
    (ChangeSpec.witness6 (enc := enc) (C := Try.checked) false ⟨#[], #[.int .i64 0, .int .i64 0, .slice none 0 0, .string ⟨#[]⟩], []⟩ 8 (by kernel_rfl) (by kernel_rfl) (by kernel_rfl) (by kernel_rfl)) ?_
  intro W base args ds gs before hval0 hW hcnd0 hsz0 hholds
  have hval : ∀ (j : Nat) t v, Try.f7.params[j]? = some t → args[j]? = some v → Value.okWide Try.prog W .any base t v := hval0
  have hW' := hW
  obtain ⟨p, q, hA0, hV, rfl, hfz, hnd⟩ := hW
  have hA : DataW.TrodAll enc Try.prog W 0 (fun _ => true) true Try.f7.params.toList args.toList ds p := hA0
  have hsz : (DataW.weightsEach Try.prog (Try.f7.params.toList ++ Rows.throughSpec.plain.varTypes Try.prog) (ds ++ gs)).all (· ≤ reachBytes) = true := hsz0
  rw [Try.params7] at hA hval hsz
  obtain ⟨v0, vs0, d0, ds0, p0, q0, hargs, rfl, rfl, h0, r0⟩ := trodAll_cons hA
  obtain ⟨v1, vs1, d1, ds1, p1, q1, rfl, rfl, rfl, h1, r1⟩ := trodAll_cons r0
  obtain ⟨v2, vs2, d2, ds2, p2, q2, rfl, rfl, rfl, h2, r2⟩ := trodAll_cons r1
  obtain ⟨v3, vs3, d3, ds3, p3, q3, rfl, rfl, rfl, h3, r3⟩ := trodAll_cons r2
  obtain ⟨rfl, rfl, rfl⟩ := trodAll_nil r3
  obtain rfl : args = #[v0, v1, v2, v3] := by cases args; simp_all
  obtain ⟨rfl, rfl⟩ := trodVars_none hV
  obtain ⟨x0, rfl, rfl, rfl, w0⟩ := open_int Try.underlying3 (hval 0 3 v0 rfl rfl) h0
  obtain ⟨x1, rfl, rfl, rfl, w1⟩ := open_int Try.underlying3 (hval 1 3 v1 rfl rfl) h1
  obtain ⟨s, rfl, rfl, rfl, hs⟩ := open_string Try.underlying9 (hval 3 9 v3 rfl rfl) h3
  have k2 := h2
  have lt2 : ∀ x ∈ p2, x.block < W.heap.size := by obtain ⟨m, hm⟩ := k2; exact DataW.trod_lt m _ _ _ hm
  have hw2 : ∀ x ∈ d2.weights Try.prog 39, x ≤ reachBytes := by
    intro x hx
    have := List.all_eq_true.1 hsz x (by simp [DataW.weightsEach, DataW.weights, hx])
    simpa using this
  have hlen : s.size < 4611686018427387904 := by
    have h1 : s.data.toList.length ≤ reachBytes := by
      have := List.all_eq_true.1 hsz s.data.toList.length (by simp [DataW.weightsEach, DataW.weights])
      simpa using this
    have h2 : s.data.toList.length = s.size := rfl
    have := reachBytes_lt
    omega
  obtain ⟨a, len, cap, zs, rfl, hI⟩ := open_nums (okWide_slice Try.underlying39 (hval 2 39 v2 rfl rfl)) h2 hw2
  clear hA0 hval0
  refine (through_law W x0 x1 a len cap zs s (wf_i64 w0).1 (wf_i64 w0).2 (wf_i64 w1).1 (wf_i64 w1).2 hlen hI).mono fun e W' ⟨he, bel⟩ => ?_
  subst he
  exact ⟨_, rfl, _, _, _, [], _, [], hW', trodAll_mk1 (shut_bool Try.underlying4 _), (trodAll_cons_mk (shut_int Try.underlying3 w0) (trodAll_cons_mk (shut_int Try.underlying3 w1) (trodAll_cons_mk (Below.trod laidOutN (by kernel_rfl) (of_decide_eq_true (by kernel_rfl)) k2 bel lt2) (trodAll_cons_mk (shut_string Try.underlying9 hs) trodAll_mk0)))), rfl, bel.frame _, fun h => by cases h⟩

theorem through_proved : Rows.ThroughSaid :=
  OpenClaim.holds_of_wide 7 Try.f7 rfl rfl rfl rfl rfl rfl rfl ⟨rfl, rfl, rfl, rfl, rfl⟩ rfl rfl rfl rfl rfl (by kernel_rfl) Try.func7 (by kernel_rfl)
    (of_decide_eq_true (by kernel_rfl)) (by unfold Func.isWrapper; first | (rw [if_pos (by decide +kernel)]; kernel_rfl) | (rw [if_neg (by decide +kernel)]; exact ⟨rfl, rfl⟩))
    (fun os started H enc _ => through_lifted os started H enc)
#print axioms through_proved
end Go.Proofs.Ytcokahccbjdeaaa
