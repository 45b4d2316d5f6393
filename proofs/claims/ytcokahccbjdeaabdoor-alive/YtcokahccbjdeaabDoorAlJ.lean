import Derived.Test.YtcokahccbjdeaabDoorAlI
import Derived.Test.YtcokahccbjdeaabDoorTie
import Derived.Test.YtcokahccbjdeaabDoorCards
import Derived.ChangeSlices
import Derived.ProofKit
import Derived.OpenShut
import Derived.ShutString
import Derived.ChangeOld
import Derived.SizedLaws
import Derived.Deep.Slices
import Derived.Deep.Strs
import Derived.LaidMore
import Derived.Stop.Joined
namespace Go.Proofs.YtcokahccbjdeaabDoor
open Go.ChangeShapes Go.WideShapes Go.ChangeAt Go.RowKit Go.Deep
open Go.ChangeMaps (open_string shut_string)

theorem ownN : ownKnob Tryd.prog.godebug = none := by kernel_rfl
theorem laidOutN : laidOutB Tryd.prog = true := by kernel_rfl
theorem Tryd.cells3 : Tryd.prog.cellsOf 3 = 1 := by kernel_rfl
theorem Tryd.cells5 : Tryd.prog.cellsOf 5 = 1 := by kernel_rfl
theorem wf_i64 {x : Int} (h : (Lit.int .i64 x).wf = true) : -9223372036854775808 ≤ x ∧ x < 9223372036854775808 := by
  simp [Lit.wf, IntKind.min, IntKind.max, IntKind.signed, IntKind.bits] at h
  omega

def laidC1 {H : Type} : List (String × DataW H) := [("twinboot/store.turns", Rows.laid_twinboot_store_turns)]
theorem gTurnsC : Tryd.prog.globalNamed "twinboot/store.turns" = some 0 := by kernel_rfl
theorem tTurnsC : (Tryd.prog.globals[0]?).map (·.type) = some 105 := by kernel_rfl
theorem door_metC (os : Os) (args : Array Value) : laidMetH Tryd.prog Rows.aliveRow.laid ((World.doorLaid Tryd.prog 14 os).forCall (fun _ _ => 0) ⟨#[], args, []⟩).memory :=
  laidMetH_of_parts3 (fuel := 8) (laidMet_of_run' 8 (by kernel_rfl) (by kernel_rfl)) (by kernel_rfl) (by kernel_rfl)

set_option maxRecDepth 100000 in
theorem of_laidC {W : World} (h : laidMetH Tryd.prog Rows.aliveRow.laid W) : TurnsAt W := by
  rw [MakeChecks.laidMetH_plain _ _ _ (by kernel_rfl)] at h
  obtain ⟨ps, ⟨g0, t0, cs0, f0, p0, q0, hg0, ht0, hv0, hd0, _, _⟩, _, _⟩ := h
  obtain rfl := Option.some.inj (gTurnsC.symm.trans hg0)
  obtain rfl := Option.some.inj (tTurnsC.symm.trans ht0)
  obtain ⟨xs, m1, _, hx1, hlen, hn3, hel⟩ := DataW.trod_array Tryd.underlying105 hd0
  have k0 := hel 0 (by decide)
  have k1 := hel 1 (by decide)
  have k2 := hel 2 (by decide)
  simp only [Rows.laid_twinboot_store_turns, Prod.mk.injEq, DataW.agg.injEq] at hx1
  match xs, hn3, hx1, k0, k1, k2 with
  | [x0, x1, x2], _, hx1, k0, k1, k2 =>
    simp only [List.map_cons, List.map_nil, List.cons.injEq] at hx1
    obtain ⟨a0, e0, d0, _⟩ := DataW.trod_int Tryd.underlying5 (show DataW.trod _ Tryd.prog W 0 _ false m1 5 _ = some x0 from k0)
    obtain ⟨a1, e1, d1, _⟩ := DataW.trod_int Tryd.underlying5 (show DataW.trod _ Tryd.prog W 0 _ false m1 5 _ = some x1 from k1)
    obtain ⟨a2, e2, d2, _⟩ := DataW.trod_int Tryd.underlying5 (show DataW.trod _ Tryd.prog W 0 _ false m1 5 _ = some x2 from k2)
    have h0 : a0 = 254 := by rw [d0] at hx1; simpa using hx1.1.1.symm
    have h1 : a1 = 253 := by rw [d1] at hx1; simpa using hx1.1.2.1.symm
    have h2 : a2 = 251 := by rw [d2] at hx1; simpa using hx1.1.2.2.1.symm
    subst h0 h1 h2
    obtain ⟨l1⟩ := cs0
    rw [Tryd.cells5] at e0 e1 e2
    have v0 := World.var?_cell hg0 hv0 0
    have v1 := World.var?_cell hg0 hv0 1
    have v2 := World.var?_cell hg0 hv0 2
    match l1, e0, e1, e2, v0, v1, v2 with
    | c0 :: c1 :: c2 :: _, e0, e1, e2, v0, v1, v2 =>
      simp at e0 e1 e2
      subst e0 e1 e2
      exact ⟨by simpa using v0, by simpa using v1, by simpa using v2⟩

theorem Tryd.cells27 : Tryd.prog.cellsOf 27 = 4 := by kernel_rfl
theorem Tryd.cells9 : Tryd.prog.cellsOf 9 = 1 := by kernel_rfl
theorem Tryd.bytes27 : Tryd.prog.bytesOf 27 = 40 := by kernel_rfl
theorem weightsAll_mem {H : Type} {P : Program} {e : TypeId} {l : List (DataW H)} {d : DataW H} {x : Nat} (hd : d ∈ l) (hx : x ∈ d.weights P e) : x ∈ DataW.weightsAll P e l := by
  induction l with
  | nil => cases hd
  | cons y r ih =>
    simp only [DataW.weightsAll, List.mem_append]
    rcases List.mem_cons.1 hd with rfl | h
    · exact Or.inl hx
    · exact Or.inr (ih h)
section
variable {H : Type} {enc : TypeId × Value → H} {P : Program} {w : World} {base : Nat} {spare : TypeId → Bool} {held : Bool}
theorem trod_struct4 {t : TypeId} {f0 f1 f2 f3 : Field} {fuel : Nat} {cs : List Value} {x : DataW H × List MemPlace} (ht : P.underlying t = some (.struct #[f0, f1, f2, f3])) (h : DataW.trod enc P w base spare held fuel t cs = some x) :
    ∃ y0 y1 y2 y3 n, x.1 = .agg [y0.1, y1.1, y2.1, y3.1] ∧ cs.length = P.cellsOf t ∧ DataW.trod enc P w base spare held n f0.type ((cs.drop f0.offset).take (P.cellsOf f0.type)) = some y0 ∧
      DataW.trod enc P w base spare held n f1.type ((cs.drop f1.offset).take (P.cellsOf f1.type)) = some y1 ∧ DataW.trod enc P w base spare held n f2.type ((cs.drop f2.offset).take (P.cellsOf f2.type)) = some y2 ∧
      DataW.trod enc P w base spare held n f3.type ((cs.drop f3.offset).take (P.cellsOf f3.type)) = some y3 := by
  obtain ⟨xs, n, _, rfl, hl, hlen, hf⟩ := DataW.trod_struct ht h
  match xs, hlen with
  | [y0, y1, y2, y3], _ => exact ⟨y0, y1, y2, y3, n, by simp, hl, by simpa using hf 0 f0 rfl, by simpa using hf 1 f1 rfl, by simpa using hf 2 f2 rfl, by simpa using hf 3 f3 rfl⟩
end

/-- A script that came in. -/
theorem open_steps {H : Type} {enc : TypeId × Value → H} {W : World} {v : Value} {d : DataW H} {p : List MemPlace} (hv : ∃ a len cap, v = .slice a len cap) (h : DataW.Trod enc Tryd.prog W 0 (fun _ => true) true 22 v d p)
    (hw : ∀ x ∈ d.weights Tryd.prog 22, x ≤ reachBytes) :
    ∃ (a : Option Addr) (b o cap : Nat) (l : List StepS), v = .slice a l.length cap ∧ (l ≠ [] → a = some ⟨b, o, none⟩) ∧ StepsAt W b o l ∧ (∀ s ∈ l, s.ok) ∧ (l ≠ [] → b < W.heap.size) ∧ l.length * 40 ≤ 140737488351232 := by
  obtain ⟨a, len, cap, rfl⟩ := hv
  obtain ⟨fuel, hf⟩ := h
  rcases open_slice Tryd.underlying22 hf with ⟨hcs, hx⟩ | ⟨ad, len', cap', m, n, D, Pl, hcs, _, hlc, hm1, hmm, hx, hel⟩
  · simp [Value.cells] at hcs
    obtain ⟨rfl, rfl, rfl⟩ := hcs
    exact ⟨none, 0, 0, 0, [], rfl, by simp, fun i hi => by simp at hi, by simp, by simp, by simp⟩
  · simp [Value.cells] at hcs
    obtain ⟨rfl, rfl, rfl⟩ := hcs
    simp only [if_true] at hmm
    subst hmm
    have hd : d = .slice ((List.range len).map D) ((List.range (m - len)).map fun j => D (len + j)) := by
      have := congrArg Prod.fst hx; exact this
    have key : ∀ i, i < len → ∃ s : StepS, (W.cell? (ad.add (i * 4)) = some (.int .i64 s.kind) ∧ W.cell? (ad.add (i * 4 + 1)) = some (.int .i64 s.a) ∧ W.cell? (ad.add (i * 4 + 2)) = some (.int .i64 s.cut) ∧ W.cell? (ad.add (i * 4 + 3)) = some (.string s.torn)) ∧ s.ok := by
      intro i hi
      obtain ⟨cs', hc, ht⟩ := hel i (by omega)
      rw [Tryd.cells27] at hc
      obtain ⟨y0, y1, y2, y3, n', hD, hl3, ht0, ht1, ht2, ht3⟩ := trod_struct4 Tryd.underlying27 ht
      simp only [Tryd.cells3, Tryd.cells9] at ht0 ht1 ht2 ht3
      obtain ⟨x0, e0, hy0, wx0⟩ := DataW.trod_int Tryd.underlying3 ht0
      obtain ⟨x1, e1, hy1, wx1⟩ := DataW.trod_int Tryd.underlying3 ht1
      obtain ⟨x2, e2, hy2, wx2⟩ := DataW.trod_int Tryd.underlying3 ht2
      obtain ⟨s3, e3, hy3, ws3⟩ := DataW.trod_string Tryd.underlying9 ht3
      rw [Tryd.cells27] at hl3
      match cs', hl3 with
      | [c0, c1, c2, c3], _ =>
        simp at e0 e1 e2 e3
        subst e0 e1 e2 e3
        have hcell := (World.cells?_some hc)
        have hwt : s3.data.toList.length ≤ reachBytes := by
          apply hw
          rw [hd]
          simp only [DataW.weights, Tryd.underlying22]
          refine List.mem_cons_of_mem _ (List.mem_append_left _ (weightsAll_mem (d := D i) (List.mem_map.2 ⟨i, by simpa using hi, rfl⟩) ?_))
          have hDi : D i = .agg [y0.1, y1.1, y2.1, y3.1] := hD
          rw [hDi]
          simp [DataW.weights, Tryd.underlying27, DataW.weightsEach, hy0, hy1, hy2, hy3]
        have hsz : s3.size ≤ reachBytes := hwt
        have hlt := reachBytes_lt
        refine ⟨⟨x0, x1, x2, s3⟩, ⟨?_, ?_, ?_, ?_⟩, ⟨(wf_i64 wx1).1, (wf_i64 wx1).2, (wf_i64 wx2).1, (wf_i64 wx2).2, by show s3.size < 4611686018427387904; omega⟩⟩
        · have := hcell.2.2 0 (by omega); rwa [add_add] at this
        · have := hcell.2.2 1 (by omega); rwa [add_add] at this
        · have := hcell.2.2 2 (by omega); rwa [add_add] at this
        · have := hcell.2.2 3 (by omega); rwa [add_add] at this
    have hsz : (((List.range len).map D).length + ((List.range (m - len)).map fun j => D (len + j)).length) * 40 ≤ reachBytes := by
      have := hw ((((List.range len).map D).length + ((List.range (m - len)).map fun j => D (len + j)).length) * Tryd.prog.bytesOf 27) (by
        rw [hd]; simp only [DataW.weights, Tryd.underlying22]; exact List.mem_cons_self)
      rwa [Tryd.bytes27] at this
    have hlen : len * 40 ≤ 140737488351232 := by
      simp only [List.length_map, List.length_range] at hsz
      have h1 : len * 40 ≤ (len + (m - len)) * 40 := Nat.mul_le_mul_right _ (by omega)
      have h2 : reachBytes = 140737488351232 := rfl
      omega
    let f : Nat → StepS := fun i => if h : i < len then Classical.choose (key i h) else ⟨0, 0, 0, ByteArray.empty⟩
    have hf' : ∀ i, i < len → (W.cell? (ad.add (i * 4)) = some (.int .i64 (f i).kind) ∧ W.cell? (ad.add (i * 4 + 1)) = some (.int .i64 (f i).a) ∧ W.cell? (ad.add (i * 4 + 2)) = some (.int .i64 (f i).cut) ∧ W.cell? (ad.add (i * 4 + 3)) = some (.string (f i).torn)) ∧ (f i).ok := by
      intro i hi
      have := Classical.choose_spec (key i hi)
      simp only [f, dif_pos hi]
      exact this
    have hll : ((List.range len).map f).length = len := by simp
    obtain ⟨b, o, spot⟩ := ad
    have hsp : 0 < len → spot = none := by
      intro h0
      have := World.cell?_spot (hf' 0 h0).1.1
      simpa [Addr.add] using this
    refine ⟨some ⟨b, o, spot⟩, b, o, m, (List.range len).map f, by rw [hll], ?_, ?_, ?_, ?_, by rw [hll]; exact hlen⟩
    · intro hne
      have : 0 < len := by
        rcases Nat.eq_zero_or_pos len with h | h
        · subst h; simp at hne
        · exact h
      rw [hsp this]
    · intro i hi
      have hi' : i < len := by simpa using hi
      have hs := hsp (by omega)
      subst hs
      obtain ⟨⟨c0, c1, c2, c3⟩, _⟩ := hf' i hi'
      have ea : ∀ j, (⟨b, o, none⟩ : Addr).add j = ⟨b, o + j, none⟩ := fun j => by cases j <;> simp [Addr.add]
      rw [ea] at c0 c1 c2 c3
      simp only [List.getElem_map, List.getElem_range]
      exact ⟨c0, by rw [Nat.add_assoc]; exact c1, by rw [Nat.add_assoc]; exact c2, by rw [Nat.add_assoc]; exact c3⟩
    · intro s hs
      obtain ⟨i, hi, rfl⟩ := List.mem_map.1 hs
      exact (hf' i (by simpa using hi)).2
    · intro hne
      have h0 : 0 < len := by
        rcases Nat.eq_zero_or_pos len with h | h
        · subst h; simp at hne
        · exact h
      have := World.block_lt_of_cell? W _ (hf' 0 h0).1.1
      simpa [Addr.add] using this
set_option maxRecDepth 100000 in
theorem alive_lifted (os : Os) (started : os.Started) (H : Type) (enc : TypeId × Value → H) :
    ReturnsInHanded {} Tryd.checked os 3 .any (fun w args => (Rows.aliveSpec.pre enc Tryd.prog Tryd.f3 [] false w args ∧ laidMetH Tryd.prog Rows.aliveRow.laid w) ∧ sizedMet enc Tryd.prog Tryd.f3 (OpenSpec.ofChange Rows.aliveSpec) false w args)
      (Rows.aliveSpec.post enc Tryd.prog Tryd.f3 false true false false) := by
  refine returnsInHanded_of_change_and (C := Tryd.checked) (X := fun w _ => laidMetH Tryd.prog Rows.aliveRow.laid w) (fun _ _ _ hh h => h.of_heap hh) ownN started (by kernel_rfl) Tryd.func3
    (ChangeSpec.witness_shaped (enc := enc) (C := Tryd.checked) (os := os) (X := fun w _ => laidMetH Tryd.prog Rows.aliveRow.laid w) false (World.doorLaid Tryd.prog 14 os) #[.slice none 0 0] 8 rfl (World.shaped_of_RefB (by kernel_rfl) (by kernel_rfl)) (by kernel_rfl) (by kernel_rfl) (by kernel_rfl) (door_metC os _)) ?_
  intro W base args ds gs before hval0 hW hq1 hq2 hL hq3
  have hval : ∀ (j : Nat) t v, Tryd.f3.params[j]? = some t → args[j]? = some v → Value.okWide Tryd.prog W .any base t v := hval0
  have hW' := hW
  obtain ⟨p, q, hA0, hV, rfl, hfz, hnd⟩ := hW
  have hA : DataW.TrodAll enc Tryd.prog W 0 (fun _ => true) true Tryd.f3.params.toList args.toList ds p := hA0
  rw [Tryd.params3] at hA hval
  obtain ⟨v0, d0, rfl, rfl, h0⟩ := trodAll_one hA
  obtain ⟨rfl, rfl⟩ := trodVars_none hV
  have k0 := h0
  have lt0 : ∀ x ∈ p, x.block < W.heap.size := by obtain ⟨m, hm⟩ := k0; exact DataW.trod_lt m _ _ _ hm
  have hsz : (DataW.weightsEach Tryd.prog (Tryd.f3.params.toList ++ Rows.aliveSpec.plain.varTypes Tryd.prog) ([d0] ++ [])).all (· ≤ reachBytes) = true := hq2
  rw [Tryd.params3] at hsz
  have hw0 : ∀ x ∈ d0.weights Tryd.prog 22, x ≤ reachBytes := by
    intro x hx
    have := List.all_eq_true.1 hsz x (by simp [DataW.weightsEach, hx])
    simpa using this
  obtain ⟨a, b, o, cap, l, rfl, ha, hl, hok, hb, hlen⟩ := open_steps (okWide_slice Tryd.underlying22 (hval 0 22 v0 rfl rfl)) h0 hw0
  clear hA0 hval0
  refine (alive_law W a b o cap l ha hl hb hok (by omega) (of_laidC hL)).mono fun e W' ⟨he, bel⟩ => ?_
  subst he
  exact ⟨_, rfl, _, _, _, [], _, [], hW', trodAll_mk1 (shut_bool Tryd.underlying4 _), trodAll_cons_mk (Below.trod laidOutN (by kernel_rfl) (of_decide_eq_true (by kernel_rfl)) k0 bel lt0) trodAll_mk0, rfl, bel.frame _, fun h => by cases h⟩

theorem alive_row : Rows.AliveSaid :=
  OpenClaim.holds_of_wide 3 Tryd.f3 rfl rfl rfl rfl rfl rfl rfl ⟨rfl, rfl, rfl, rfl, rfl⟩ rfl rfl rfl rfl rfl (by kernel_rfl) Tryd.func3 (by kernel_rfl)
    (of_decide_eq_true (by kernel_rfl)) (by unfold Func.isWrapper; first | (rw [if_pos (by decide +kernel)]; kernel_rfl) | (rw [if_neg (by decide +kernel)]; exact ⟨rfl, rfl⟩))
    (fun os started H enc _ => alive_lifted os started H enc)
theorem alive_proved : Rows.AliveCardSaid :=
  Claim7.holds_tied_plain_at .later [] [.data] true (true, "47ee37c04394a11317cea033434fc50f0fae85ed0302b377f8fe0875659927a3") false
    alive_row (fun _ h => by cases h) (by kernel_rfl) (fun _ h => by cases h) alive_row_tie rfl ⟨rfl, rfl⟩ (by kernel_rfl) rfl
    (fun f fn hf hfn => by
      obtain rfl : f = 3 := Option.some.inj ((show Tryd.prog.funcNamed "twinboot/twinbootkeep.Alive" = some 3 by kernel_rfl).symm.trans hf) |>.symm
      obtain rfl : fn = Tryd.f3 := (Option.some.inj (Tryd.func3.symm.trans hfn)).symm
      exact ⟨by kernel_rfl, fun j t ht => by
        rw [Tryd.params3] at ht
        have h3 : t = 22 := by
          rcases j with _ | j
          · simpa using ht.symm
          · simp at ht
        subst h3
        exact (show Tryd.prog.wantsStandIn 22 = false by kernel_rfl)⟩)
    (by kernel_rfl)
#print axioms alive_proved
end Go.Proofs.YtcokahccbjdeaabDoor
