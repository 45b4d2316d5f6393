import Derived.Test.YtcokahccbjdeaaaThruB
import Derived.Deep.RegionWith
import Derived.Deep.DeepCutAuto
import Derived.Laws.IdiomStrings
namespace Go.Proofs.Ytcokahccbjdeaaa
open Go.RowKit

/-- what is no image is refused -/
theorem load_bad (w : World) (z : ByteArray) (h0 : z.size < 4611686018427387904) (h : unpackM z.data.toList = none) :
    Calls Try.prog 22 #[.string z] w fun e w' => e = .returned (.tuple #[.agg #[.int .i64 0, .int .i64 0, .string ⟨#[]⟩], .int .i64 6]) ∧ Below w.heap.size w w' :=
  twinLoad_any w z 0 0 6 ⟨#[]⟩ (fun w => load_none w z h0 h)

/-- an image, and what is made of it by turning a byte -/
structure Tampered (v e : Int) (P : List Seg) (t : ByteArray) : Prop where
  pack : ∀ (w : World) a cap, SegsIn w a P → Calls Try.prog 14 #[.int .i64 v, .int .i64 e, .slice a P.length cap] w fun en w' => en = .returned (.tuple #[.string t, .int .i64 0]) ∧ Below w.heap.size w w'
  lo : 8 ≤ t.size
  hi : t.size ≤ 120
  turned : ∀ k (hk : k < t.size) (y : UInt8), y ≠ t[k] → unpackM (t.data.toList.set k y) = none
  short : ∀ k, k < t.size → unpackM (t.data.toList.take k) = none
  long : ∀ u, u ≠ [] → unpackM (t.data.toList ++ u) = none

theorem tampered_of {v e : Int} {P : List Seg} {m : Mem} (hM : Made v e m) (hl : layAll P = some m) (hf : ∀ s ∈ P, s.fits = true) (h1 : 1 ≤ P.length) (h6 : P.length ≤ 6) : ∃ t, Tampered v e P t := by
  have hsz : (mk (textOf v e (runsOf m))).size = (textOf v e (runsOf m)).length := mk_size _
  refine ⟨mk (textOf v e (runsOf m)), ?_, ?_, ?_, ?_, ?_, ?_⟩
  · exact fun w a cap hs => pack_in w v e a cap P m hs hf hl h1 (by omega) hM
  · rw [hsz, textOf_length]; omega
  · rw [hsz]; exact hM.len
  · intro k hk y hy
    rw [mk_data]
    refine turned_none hM k (by omega) y ?_
    intro e
    apply hy
    rw [e, ← ba_getD, mk_data, List.getD_eq_getElem?_getD, List.getElem?_eq_getElem (by omega)]; rfl
  · intro k hk; rw [mk_data]; exact shorter_none hM k (by omega)
  · intro u hu; rw [mk_data]; exact longer_none hM u hu

theorem xor_ne (x y : UInt8) (hy : y ≠ 0) : x ^^^ y ≠ x := by
  intro h
  apply hy
  have h2 : x ^^^ (x ^^^ y) = x ^^^ x := by rw [h]
  rw [← UInt8.xor_assoc, UInt8.xor_self, UInt8.zero_xor] at h2
  exact h2

theorem bytesRow_V (s : ByteArray) (cap : Nat) : bytesRow s cap = bytesV (s.data.toList ++ List.replicate (cap - s.size) 0) := by
  apply Array.ext'
  simp [bytesRow, bytesV]
end Go.Proofs.Ytcokahccbjdeaaa
