import Derived.Test.YtcokahccbjdeaaaDoorPe
import Derived.ProofKit
import Derived.OpenShut
import Derived.ShutString
import Derived.ChangeOld
import Derived.SizedLaws
import Derived.Deep.Slices
import Derived.Deep.Strs
import Derived.LaidMore
import Derived.Stop.Joined
namespace Go.Proofs.YtcokahccbjdeaaaDoor
open Go.ChangeShapes Go.WideShapes Go.ChangeAt Go.RowKit Go.Deep
open Go.ChangeMaps (open_string shut_string)

theorem ownN : ownKnob Tryd.prog.godebug = none := by kernel_rfl
theorem laidOutN : laidOutB Tryd.prog = true := by kernel_rfl
theorem Tryd.cells50 : Tryd.prog.cellsOf 50 = 6 := by kernel_rfl
theorem Tryd.cells3 : Tryd.prog.cellsOf 3 = 1 := by kernel_rfl
theorem Tryd.cells4 : Tryd.prog.cellsOf 4 = 1 := by kernel_rfl
theorem Tryd.cells5 : Tryd.prog.cellsOf 5 = 1 := by kernel_rfl
theorem Tryd.cells9 : Tryd.prog.cellsOf 9 = 1 := by kernel_rfl
theorem Tryd.bytes50 : Tryd.prog.bytesOf 50 = 64 := by kernel_rfl

theorem weightsAll_mem {H : Type} {P : Program} {e : TypeId} {l : List (DataW H)} {d : DataW H} {x : Nat} (hd : d ∈ l) (hx : x ∈ d.weights P e) : x ∈ DataW.weightsAll P e l := by
  induction l with
  | nil => cases hd
  | cons y r ih =>
    simp only [DataW.weightsAll, List.mem_append]
    rcases List.mem_cons.1 hd with rfl | h
    · exact Or.inl hx
    · exact Or.inr (ih h)
section
variable {H : Type} {enc : TypeId × Value → H} {P : Program} {w : World} {base : Nat} {spare : TypeId → Bool} {held : Bool}
theorem trod_struct6 {t : TypeId} {f0 f1 f2 f3 f4 f5 : Field} {fuel : Nat} {cs : List Value} {x : DataW H × List MemPlace} (ht : P.underlying t = some (.struct #[f0, f1, f2, f3, f4, f5])) (h : DataW.trod enc P w base spare held fuel t cs = some x) :
    ∃ y0 y1 y2 y3 y4 y5 n, x.1 = .agg [y0.1, y1.1, y2.1, y3.1, y4.1, y5.1] ∧ cs.length = P.cellsOf t ∧ DataW.trod enc P w base spare held n f0.type ((cs.drop f0.offset).take (P.cellsOf f0.type)) = some y0 ∧
      DataW.trod enc P w base spare held n f1.type ((cs.drop f1.offset).take (P.cellsOf f1.type)) = some y1 ∧ DataW.trod enc P w base spare held n f2.type ((cs.drop f2.offset).take (P.cellsOf f2.type)) = some y2 ∧
      DataW.trod enc P w base spare held n f3.type ((cs.drop f3.offset).take (P.cellsOf f3.type)) = some y3 ∧ DataW.trod enc P w base spare held n f4.type ((cs.drop f4.offset).take (P.cellsOf f4.type)) = some y4 ∧ DataW.trod enc P w base spare held n f5.type ((cs.drop f5.offset).take (P.cellsOf f5.type)) = some y5 := by
  obtain ⟨xs, n, _, rfl, hl, hlen, hf⟩ := DataW.trod_struct ht h
  match xs, hlen with
  | [y0, y1, y2, y3, y4, y5], _ => exact ⟨y0, y1, y2, y3, y4, y5, n, by simp, hl, by simpa using hf 0 f0 rfl, by simpa using hf 1 f1 rfl, by simpa using hf 2 f2 rfl, by simpa using hf 3 f3 rfl, by simpa using hf 4 f4 rfl, by simpa using hf 5 f5 rfl⟩
end

/-- A script that came in. -/
theorem open_ops {H : Type} {enc : TypeId × Value → H} {W : World} {v : Value} {d : DataW H} {p : List MemPlace} (hv : ∃ a len cap, v = .slice a len cap) (h : DataW.Trod enc Tryd.prog W 0 (fun _ => true) true 22 v d p)
    (hw : ∀ x ∈ d.weights Tryd.prog 22, x ≤ reachBytes) :
    ∃ (a : Option Addr) (b o cap : Nat) (l : List OpS), v = .slice a l.length cap ∧ (l ≠ [] → a = some ⟨b, o, none⟩) ∧ OpsAt W b o l ∧ (∀ s ∈ l, s.s.size < 4611686018427387904) ∧ (l ≠ [] → b < W.heap.size) ∧ l.length * 64 ≤ 140737488351232 := by
  obtain ⟨a, len, cap, rfl⟩ := hv
  obtain ⟨fuel, hf⟩ := h
  rcases open_slice Tryd.underlying22 hf with ⟨hcs, hx⟩ | ⟨ad, len', cap', m, n, D, Pl, hcs, _, hlc, hm1, hmm, hx, hel⟩
  · simp [Value.cells] at hcs
    obtain ⟨rfl, rfl, rfl⟩ := hcs
    exact ⟨none, 0, 0, 0, [], rfl, by simp, fun i hi => by simp at hi, by simp, by simp, by simp⟩
  · simp [Value.cells] at hcs
    obtain ⟨rfl, rfl, rfl⟩ := hcs
    simp only [if_true] at hmm
    subst hmm
    have hd : d = .slice ((List.range len).map D) ((List.range (m - len)).map fun j => D (len + j)) := by
      have := congrArg Prod.fst hx; exact this
    have key : ∀ i, i < len → ∃ s : OpS, (W.cell? (ad.add (i * 6)) = some (.int .i64 s.kind) ∧ W.cell? (ad.add (i * 6 + 1)) = some (.int .i64 s.n) ∧ W.cell? (ad.add (i * 6 + 2)) = some (.int .i64 s.cut) ∧ W.cell? (ad.add (i * 6 + 3)) = some (.string s.s) ∧ W.cell? (ad.add (i * 6 + 4)) = some (.string s.torn) ∧ W.cell? (ad.add (i * 6 + 5)) = some (.bool s.which)) ∧ s.s.size < 4611686018427387904 := by
      intro i hi
      obtain ⟨cs', hc, ht⟩ := hel i (by omega)
      rw [Tryd.cells50] at hc
      obtain ⟨y0, y1, y2, y3, y4, y5, n', hD, hl3, ht0, ht1, ht2, ht3, ht4, ht5⟩ := trod_struct6 Tryd.underlying50 ht
      simp only [Tryd.cells3, Tryd.cells9, Tryd.cells4] at ht0 ht1 ht2 ht3 ht4 ht5
      obtain ⟨x0, e0, hy0, wx0⟩ := DataW.trod_int Tryd.underlying3 ht0
      obtain ⟨x1, e1, hy1, wx1⟩ := DataW.trod_int Tryd.underlying3 ht1
      obtain ⟨x2, e2, hy2, wx2⟩ := DataW.trod_int Tryd.underlying3 ht2
      obtain ⟨s3, e3, hy3, ws3⟩ := DataW.trod_string Tryd.underlying9 ht3
      obtain ⟨s4, e4, hy4, ws4⟩ := DataW.trod_string Tryd.underlying9 ht4
      obtain ⟨b5, e5, hy5⟩ := DataW.trod_bool Tryd.underlying4 ht5
      rw [Tryd.cells50] at hl3
      match cs', hl3 with
      | [c0, c1, c2, c3, c4, c5], _ =>
        simp at e0 e1 e2 e3 e4 e5
        subst e0 e1 e2 e3 e4 e5
        have hcell := (World.cells?_some hc)
        have hwt : s3.data.toList.length ≤ reachBytes := by
          apply hw
          rw [hd]
          simp only [DataW.weights, Tryd.underlying22]
          refine List.mem_cons_of_mem _ (List.mem_append_left _ (weightsAll_mem (d := D i) (List.mem_map.2 ⟨i, by simpa using hi, rfl⟩) ?_))
          have hDi : D i = .agg [y0.1, y1.1, y2.1, y3.1, y4.1, y5.1] := hD
          rw [hDi]
          simp [DataW.weights, Tryd.underlying50, DataW.weightsEach, hy0, hy1, hy2, hy3]
        have hsz : s3.size ≤ reachBytes := hwt
        refine ⟨⟨x0, x1, x2, s3, s4, b5⟩, ⟨?_, ?_, ?_, ?_, ?_, ?_⟩, by have := reachBytes_lt; dsimp only; omega⟩
        · have := hcell.2.2 0 (by omega); rwa [add_add] at this
        · have := hcell.2.2 1 (by omega); rwa [add_add] at this
        · have := hcell.2.2 2 (by omega); rwa [add_add] at this
        · have := hcell.2.2 3 (by omega); rwa [add_add] at this
        · have := hcell.2.2 4 (by omega); rwa [add_add] at this
        · have := hcell.2.2 5 (by omega); rwa [add_add] at this
    have hsz : (((List.range len).map D).length + ((List.range (m - len)).map fun j => D (len + j)).length) * 64 ≤ reachBytes := by
      have := hw ((((List.range len).map D).length + ((List.range (m - len)).map fun j => D (len + j)).length) * Tryd.prog.bytesOf 50) (by
        rw [hd]; simp only [DataW.weights, Tryd.underlying22]; exact List.mem_cons_self)
      rwa [Tryd.bytes50] at this
    have hlen : len * 64 ≤ 140737488351232 := by
      simp only [List.length_map, List.length_range] at hsz
      have h1 : len * 64 ≤ (len + (m - len)) * 64 := Nat.mul_le_mul_right _ (by omega)
      have h2 : reachBytes = 140737488351232 := rfl
      omega
    let f : Nat → OpS := fun i => if h : i < len then Classical.choose (key i h) else ⟨0, 0, 0, ByteArray.empty, ByteArray.empty, false⟩
    have hf' : ∀ i, i < len → (W.cell? (ad.add (i * 6)) = some (.int .i64 (f i).kind) ∧ W.cell? (ad.add (i * 6 + 1)) = some (.int .i64 (f i).n) ∧ W.cell? (ad.add (i * 6 + 2)) = some (.int .i64 (f i).cut) ∧ W.cell? (ad.add (i * 6 + 3)) = some (.string (f i).s) ∧ W.cell? (ad.add (i * 6 + 4)) = some (.string (f i).torn) ∧ W.cell? (ad.add (i * 6 + 5)) = some (.bool (f i).which)) ∧ (f i).s.size < 4611686018427387904 := by
      intro i hi
      have := Classical.choose_spec (key i hi)
      simp only [f, dif_pos hi]
      exact this
    have hll : ((List.range len).map f).length = len := by simp
    obtain ⟨b, o, spot⟩ := ad
    have hsp : 0 < len → spot = none := by
      intro h0
      have := World.cell?_spot (hf' 0 h0).1.1
      simpa [Addr.add] using this
    refine ⟨some ⟨b, o, spot⟩, b, o, m, (List.range len).map f, by rw [hll], ?_, ?_, ?_, ?_, by rw [hll]; exact hlen⟩
    · intro hne
      have : 0 < len := by
        rcases Nat.eq_zero_or_pos len with h | h
        · subst h; simp at hne
        · exact h
      rw [hsp this]
    · intro i hi
      have hi' : i < len := by simpa using hi
      have hs := hsp (by omega)
      subst hs
      obtain ⟨⟨c0, c1, c2, c3, c4, c5⟩, _⟩ := hf' i hi'
      have ea : ∀ j, (⟨b, o, none⟩ : Addr).add j = ⟨b, o + j, none⟩ := fun j => by cases j <;> simp [Addr.add]
      rw [ea] at c0 c1 c2 c3 c4 c5
      simp only [List.getElem_map, List.getElem_range]
      exact ⟨c0, by rw [Nat.add_assoc]; exact c1, by rw [Nat.add_assoc]; exact c2, by rw [Nat.add_assoc]; exact c3, by rw [Nat.add_assoc]; exact c4, by rw [Nat.add_assoc]; exact c5⟩
    · intro s hs
      obtain ⟨i, hi, rfl⟩ := List.mem_map.1 hs
      exact (hf' i (by simpa using hi)).2
    · intro hne
      have h0 : 0 < len := by
        rcases Nat.eq_zero_or_pos len with h | h
        · subst h; simp at hne
        · exact h
      have := World.block_lt_of_cell? W _ (hf' 0 h0).1.1
      simpa [Addr.add] using this
end Go.Proofs.YtcokahccbjdeaaaDoor
