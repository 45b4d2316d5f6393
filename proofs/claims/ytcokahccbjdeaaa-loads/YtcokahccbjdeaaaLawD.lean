import Derived.Test.YtcokahccbjdeaaaLawC
import Derived.ProofKit
import Derived.OpenShut
import Derived.ShutString
import Derived.ChangeOld
import Derived.SizedLaws
import Derived.Deep.Slices
import Derived.Deep.Strs
namespace Go.Proofs.Ytcokahccbjdeaaa
open Go.ChangeShapes Go.WideShapes Go.ChangeAt Go.RowKit Go.Deep
open Go.ChangeMaps (open_string shut_string)

theorem ownN : ownKnob Try.prog.godebug = none := by kernel_rfl
theorem laidOutN : laidOutB Try.prog = true := by kernel_rfl
theorem Try.cells43 : Try.prog.cellsOf 43 = 3 := by kernel_rfl
theorem Try.cells3 : Try.prog.cellsOf 3 = 1 := by kernel_rfl
theorem Try.cells9 : Try.prog.cellsOf 9 = 1 := by kernel_rfl
theorem Try.bytes43 : Try.prog.bytesOf 43 = 32 := by kernel_rfl

theorem wf_i64 {x : Int} (h : (Lit.int .i64 x).wf = true) : -9223372036854775808 ≤ x ∧ x < 9223372036854775808 := by
  simp [Lit.wf, IntKind.min, IntKind.max, IntKind.signed, IntKind.bits] at h
  omega

theorem weightsAll_mem {H : Type} {P : Program} {e : TypeId} {l : List (DataW H)} {d : DataW H} {x : Nat} (hd : d ∈ l) (hx : x ∈ d.weights P e) : x ∈ DataW.weightsAll P e l := by
  induction l with
  | nil => cases hd
  | cons y r ih =>
    simp only [DataW.weightsAll, List.mem_append]
    rcases List.mem_cons.1 hd with rfl | h
    · exact Or.inl hx
    · exact Or.inr (ih h)

/-- A slice of segments that came in. -/
theorem open_segs {H : Type} {enc : TypeId × Value → H} {W : World} {v : Value} {d : DataW H} {p : List MemPlace} (hv : ∃ a len cap, v = .slice a len cap) (h : DataW.Trod enc Try.prog W 0 (fun _ => true) true 23 v d p)
    (hw : ∀ x ∈ d.weights Try.prog 23, x ≤ reachBytes) :
    ∃ (a : Option Addr) (b o cap : Nat) (l : List Seg), v = .slice a l.length cap ∧ (l ≠ [] → a = some ⟨b, o, none⟩) ∧ (a = none → cap = 0) ∧ SegsAt W b o l ∧ (∀ s ∈ l, s.ok) ∧ (l ≠ [] → b < W.heap.size) ∧ l.length * 32 ≤ 140737488351232 := by
  obtain ⟨a, len, cap, rfl⟩ := hv
  obtain ⟨fuel, hf⟩ := h
  rcases open_slice Try.underlying23 hf with ⟨hcs, hx⟩ | ⟨ad, len', cap', m, n, D, Pl, hcs, _, hlc, hm1, hmm, hx, hel⟩
  · simp [Value.cells] at hcs
    obtain ⟨rfl, rfl, rfl⟩ := hcs
    exact ⟨none, 0, 0, 0, [], rfl, by simp, fun _ => rfl, fun i hi => by simp at hi, by simp, by simp, by simp⟩
  · simp [Value.cells] at hcs
    obtain ⟨rfl, rfl, rfl⟩ := hcs
    simp only [if_true] at hmm
    subst hmm
    have hd : d = .slice ((List.range len).map D) ((List.range (m - len)).map fun j => D (len + j)) := by
      have := congrArg Prod.fst hx; exact this
    have key : ∀ i, i < len → ∃ s : Seg, W.cell? (ad.add (i * 3)) = some (.int .i64 s.addr) ∧ W.cell? (ad.add (i * 3 + 1)) = some (.int .i64 s.size) ∧ W.cell? (ad.add (i * 3 + 2)) = some (.string s.data) ∧ s.ok := by
      intro i hi
      obtain ⟨cs', hc, ht⟩ := hel i (by omega)
      rw [Try.cells43] at hc
      obtain ⟨y0, y1, y2, n', hD, hl3, ht0, ht1, ht2⟩ := trod_struct3 Try.underlying43 ht
      simp only [Try.cells3, Try.cells9] at ht0 ht1 ht2
      obtain ⟨x, e0, hy0, wx⟩ := DataW.trod_int Try.underlying3 ht0
      obtain ⟨z, e1, hy1, wz⟩ := DataW.trod_int Try.underlying3 ht1
      obtain ⟨s, e2, hy2, ws⟩ := DataW.trod_string Try.underlying9 ht2
      rw [Try.cells43] at hl3
      match cs', hl3 with
      | [c0, c1, c2], _ =>
        simp at e0 e1 e2
        subst e0 e1 e2
        have hcell := (World.cells?_some hc)
        have hwt : s.data.toList.length ≤ reachBytes := by
          apply hw
          rw [hd]
          simp only [DataW.weights, Try.underlying23]
          refine List.mem_cons_of_mem _ (List.mem_append_left _ (weightsAll_mem (d := D i) (List.mem_map.2 ⟨i, by simpa using hi, rfl⟩) ?_))
          have hDi : D i = .agg [y0.1, y1.1, y2.1] := congrArg Prod.fst hD
          rw [hDi]
          simp [DataW.weights, Try.underlying43, DataW.weightsEach, hy0, hy1, hy2]
        have hsz : s.size ≤ reachBytes := hwt
        refine ⟨⟨x, z, s⟩, ?_, ?_, ?_, (wf_i64 wx).1, (wf_i64 wx).2, (wf_i64 wz).1, (wf_i64 wz).2, by have := reachBytes_lt; dsimp only; omega⟩
        · have := hcell.2.2 0 (by omega); rwa [add_add] at this
        · have := hcell.2.2 1 (by omega); rwa [add_add] at this
        · have := hcell.2.2 2 (by omega); rwa [add_add] at this
    have hsz : (((List.range len).map D).length + ((List.range (m - len)).map fun j => D (len + j)).length) * 32 ≤ reachBytes := by
      have := hw ((((List.range len).map D).length + ((List.range (m - len)).map fun j => D (len + j)).length) * Try.prog.bytesOf 43) (by
        rw [hd]; simp only [DataW.weights, Try.underlying23]; exact List.mem_cons_self)
      rwa [Try.bytes43] at this
    have hlen : len * 32 ≤ 140737488351232 := by
      simp only [List.length_map, List.length_range] at hsz
      have h1 : len * 32 ≤ (len + (m - len)) * 32 := Nat.mul_le_mul_right _ (by omega)
      have h2 : reachBytes = 140737488351232 := rfl
      omega
    let f : Nat → Seg := fun i => if h : i < len then Classical.choose (key i h) else ⟨0, 0, ByteArray.empty⟩
    have hf' : ∀ i, i < len → W.cell? (ad.add (i * 3)) = some (.int .i64 (f i).addr) ∧ W.cell? (ad.add (i * 3 + 1)) = some (.int .i64 (f i).size) ∧ W.cell? (ad.add (i * 3 + 2)) = some (.string (f i).data) ∧ (f i).ok := by
      intro i hi
      have := Classical.choose_spec (key i hi)
      simp only [f, dif_pos hi]
      exact this
    have hll : ((List.range len).map f).length = len := by simp
    obtain ⟨b, o, spot⟩ := ad
    have hsp : 0 < len → spot = none := by
      intro h0
      have := World.cell?_spot (hf' 0 h0).1
      simpa [Addr.add] using this
    refine ⟨some ⟨b, o, spot⟩, b, o, m, (List.range len).map f, by rw [hll], ?_, by simp, ?_, ?_, ?_, by rw [hll]; exact hlen⟩
    · intro hne
      have : 0 < len := by
        rcases Nat.eq_zero_or_pos len with h | h
        · subst h; simp at hne
        · exact h
      rw [hsp this]
    · intro i hi
      have hi' : i < len := by simpa using hi
      have hs := hsp (by omega)
      subst hs
      obtain ⟨c1, c2, c3, _⟩ := hf' i hi'
      have ea : ∀ j, (⟨b, o, none⟩ : Addr).add j = ⟨b, o + j, none⟩ := fun j => by cases j <;> simp [Addr.add]
      rw [ea] at c1 c2 c3
      simp only [List.getElem_map, List.getElem_range]
      exact ⟨c1, by rw [Nat.add_assoc]; exact c2, by rw [Nat.add_assoc]; exact c3⟩
    · intro s hs
      obtain ⟨i, hi, rfl⟩ := List.mem_map.1 hs
      exact (hf' i (by simpa using hi)).2.2.2
    · intro hne
      have h0 : 0 < len := by
        rcases Nat.eq_zero_or_pos len with h | h
        · subst h; simp at hne
        · exact h
      have := World.block_lt_of_cell? W _ (hf' 0 h0).1
      simpa [Addr.add] using this

set_option maxRecDepth 100000 in
theorem packs_lifted (os : Os) (started : os.Started) (H : Type) (enc : TypeId × Value → H) :
    ReturnsInHanded {} Try.checked os 4 .any (Rows.packsSpec.pre6 enc Try.prog Try.f4 Rows.packsRow.domain false) (Rows.packsSpec.post enc Try.prog Try.f4 false true false false) := by
  refine returnsInHanded_of_change_sized (C := Try.checked) ownN started (by kernel_rfl) Try.func4
    (ChangeSpec.witness6 (enc := enc) (C := Try.checked) false ⟨#[], #[.int .i64 0, .int .i64 0, .slice none 0 0], []⟩ 8 (by kernel_rfl) (by kernel_rfl) (by kernel_rfl) (by kernel_rfl)) ?_
  intro W base args ds gs before hval0 hW hcnd0 hsz0 hholds
  have hval : ∀ (j : Nat) t v, Try.f4.params[j]? = some t → args[j]? = some v → Value.okWide Try.prog W .any base t v := hval0
  have hW' := hW
  obtain ⟨p, q, hA0, hV, rfl, hfz, hnd⟩ := hW
  have hA : DataW.TrodAll enc Try.prog W 0 (fun _ => true) true Try.f4.params.toList args.toList ds p := hA0
  have hsz : (DataW.weightsEach Try.prog (Try.f4.params.toList ++ Rows.packsSpec.plain.varTypes Try.prog) (ds ++ gs)).all (· ≤ reachBytes) = true := hsz0
  rw [Try.params4] at hA hval hsz
  obtain ⟨v0, vs0, d0, ds0, p0, q0, hargs, rfl, rfl, h0, r0⟩ := trodAll_cons hA
  obtain ⟨v1, vs1, d1, ds1, p1, q1, rfl, rfl, rfl, h1, r1⟩ := trodAll_cons r0
  obtain ⟨v2, vs2, d2, ds2, p2, q2, rfl, rfl, rfl, h2, r2⟩ := trodAll_cons r1
  obtain ⟨rfl, rfl, rfl⟩ := trodAll_nil r2
  obtain rfl : args = #[v0, v1, v2] := by cases args; simp_all
  obtain ⟨rfl, rfl⟩ := trodVars_none hV
  obtain ⟨x0, rfl, rfl, rfl, w0⟩ := open_int Try.underlying3 (hval 0 3 v0 rfl rfl) h0
  obtain ⟨x1, rfl, rfl, rfl, w1⟩ := open_int Try.underlying3 (hval 1 3 v1 rfl rfl) h1
  have k2 := h2
  have lt2 : ∀ x ∈ p2, x.block < W.heap.size := by obtain ⟨m, hm⟩ := k2; exact DataW.trod_lt m _ _ _ hm
  have hw2 : ∀ x ∈ d2.weights Try.prog 23, x ≤ reachBytes := by
    intro x hx
    have := List.all_eq_true.1 hsz x (by simp [DataW.weightsEach, DataW.weights, hx])
    simpa using this
  obtain ⟨a, b, o, cap, l, rfl, ha, hn, hl, hok, hb, hlen⟩ := open_segs (okWide_slice Try.underlying23 (hval 2 23 v2 rfl rfl)) h2 hw2
  clear hA0 hval0
  refine (packs_law W x0 x1 a b o cap l ha hn hl hok hb hlen).mono fun e W' ⟨he, bel⟩ => ?_
  subst he
  exact ⟨_, rfl, _, _, _, [], _, [], hW', trodAll_mk1 (shut_bool Try.underlying4 _), (trodAll_cons_mk (shut_int Try.underlying3 w0) (trodAll_cons_mk (shut_int Try.underlying3 w1) (trodAll_cons_mk (Below.trod laidOutN (by kernel_rfl) (of_decide_eq_true (by kernel_rfl)) k2 bel lt2) trodAll_mk0))), rfl, bel.frame _, fun h => by cases h⟩

theorem packs_proved : Rows.PacksSaid :=
  OpenClaim.holds_of_wide 4 Try.f4 rfl rfl rfl rfl rfl rfl rfl ⟨rfl, rfl, rfl, rfl, rfl⟩ rfl rfl rfl rfl rfl (by kernel_rfl) Try.func4 (by kernel_rfl)
    (of_decide_eq_true (by kernel_rfl)) (by unfold Func.isWrapper; first | (rw [if_pos (by decide +kernel)]; kernel_rfl) | (rw [if_neg (by decide +kernel)]; exact ⟨rfl, rfl⟩))
    (fun os started H enc _ => packs_lifted os started H enc)
#print axioms packs_proved
end Go.Proofs.Ytcokahccbjdeaaa
