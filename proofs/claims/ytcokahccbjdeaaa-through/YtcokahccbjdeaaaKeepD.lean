import Derived.Test.YtcokahccbjdeaaaKeepC
namespace Go.Proofs.Ytcokahccbjdeaaa
open Go.RowKit

/-! example 1 of the document -/
def ex1 : List UInt8 := [84, 66, 1, 2, 5, 1, 4, 3, 2, 97, 98, 62, 239]
def exSeg : Seg := ⟨4, 3, ⟨#[97, 98]⟩⟩
def exMem : Mem := mem0.putN 4 ⟨#[97, 98]⟩ 3
theorem ex_wf : exMem.wf := Mem.putN_wf mem0_wf _ _ _
theorem ex_lay : layAll [exSeg] = some exMem := by kernel_rfl
theorem ex_starts : (List.range 128).filter (isStart exMem) = [4] := by decide +kernel
theorem ex_c4 : exMem.c 4 = true := by decide +kernel
theorem ex_c5 : exMem.c 5 = true := by decide +kernel
theorem ex_c6 : exMem.c 6 = true := by decide +kernel
theorem ex_c7 : exMem.c 7 = false := by decide +kernel
theorem ex_b4 : exMem.b 4 = 97 := by decide +kernel
theorem ex_b5 : exMem.b 5 = 98 := by decide +kernel
theorem ex_b6 : exMem.b 6 = 0 := by decide +kernel
theorem ex_end : endFrom exMem 4 = 7 := by
  rw [endFrom_go (by decide) ex_c4, endFrom_go (by decide) ex_c5, endFrom_go (by decide) ex_c6, endFrom_stop (by rw [ex_c7]; simp)]
theorem ex_data : dataFrom exMem 4 4 = 6 := by
  rw [dataFrom_go (by decide) ex_c4, ex_b4, if_neg (by decide), dataFrom_go (by decide) ex_c5, ex_b5, if_neg (by decide), dataFrom_go (by decide) ex_c6, ex_b6, if_pos rfl, dataFrom_stop (by rw [ex_c7]; simp)]
theorem ex_run : runOf exMem 4 = exSeg := by
  unfold runOf exSeg
  rw [ex_end, ex_data]
  have : (exMem.byt.drop 4).take (6 - 4) = [97, 98] := by decide +kernel
  rw [this]; rfl
theorem ex_runs : runsOf exMem = [exSeg] := by
  unfold runsOf runsTo
  rw [ex_starts, List.map_cons, List.map_nil, ex_run]
theorem ex_text : textOf 258 5 [exSeg] = ex1 := by decide +kernel
theorem ex_fit : allFit [exSeg] = true := by decide +kernel
theorem ex_pack : packM 258 5 [exSeg] = (ex1, 0) := by
  unfold packM
  rw [if_neg (by omega), if_neg (by rw [ex_fit]; simp), ex_lay]
  dsimp only
  rw [if_neg (by rw [show (5 : Int).toNat = 5 from rfl, ex_c5]; simp), ex_runs, ex_text, if_neg (by decide)]
theorem ex_dec : decM ex1 = some (258, 5, [exSeg]) := by kernel_rfl
theorem ex_unpack : unpackM ex1 = some (258, 5, [exSeg]) := by
  unfold unpackM; rw [ex_dec]; dsimp only; rw [if_pos ex_pack]

def exRam : ByteArray := mk exMem.byt
theorem exRam_size : exRam.size = 128 := by rw [exRam, mk_size]; exact ex_wf.2
theorem exRam_4 : exRam[4]'(by rw [exRam_size]; decide) = 97 := by
  rw [← ba_getD]
  exact ex_b4

theorem ex_load (w : World) : Calls Try.prog 22 #[.string ⟨#[84, 66, 1, 2, 5, 1, 4, 3, 2, 97, 98, 62, 239]⟩] w fun e w' => e = .returned (.tuple #[.agg #[.int .i64 258, .int .i64 5, .string exRam], .int .i64 0]) ∧ Below w.heap.size w w' :=
  twinLoad_any w _ 258 5 0 exRam (fun w => load_some w ⟨#[84, 66, 1, 2, 5, 1, 4, 3, 2, 97, 98, 62, 239]⟩ 258 5 [exSeg] exMem ex_unpack ex_lay)
end Go.Proofs.Ytcokahccbjdeaaa
