import Derived.Test.YtpfdfpeomofabaaDoorImgs
import Derived.Deep.RegionHeld3
namespace Go.Proofs.YtpfdfpeomofabaaDoor
open Go.RowKit

structure PicAt (w : World) (b : Nat) (m : Mem) : Prop where
  hb : w.heap[b]? = some (.cells (memV m) 100 (0, 0))
  wf : m.wf

theorem PicAt.cov {w : World} {b : Nat} {m : Mem} (h : PicAt w b m) (a : Nat) (ha : a < 128) : w.cell? ⟨b, a, none⟩ = some (.bool (m.c a)) := by
  rw [cell_of_heap h.hb]; exact memV_cov h.wf a ha
theorem PicAt.byt {w : World} {b : Nat} {m : Mem} (h : PicAt w b m) (a : Nat) (ha : a < 128) : w.cell? ⟨b, 128 + a, none⟩ = some (.int .u8 ((m.b a).toNat : Int)) := by
  rw [cell_of_heap h.hb]; exact memV_byt h.wf a ha
theorem PicAt.free {w : World} {b : Nat} {m : Mem} (h : PicAt w b m) (o : Nat) : w.frozen? ⟨b, o, none⟩ = false := free_of_heap h.hb
theorem PicAt.setCov {w : World} {b : Nat} {m : Mem} (h : PicAt w b m) (a : Nat) (ha : a < 128) (x : Bool) : PicAt (w.setCell ⟨b, a, none⟩ (.bool x)) b ⟨m.cov.set a x, m.byt⟩ :=
  ⟨by rw [heap_setCell_at _ _ _ _ _ _ _ h.hb, memV_setCov h.wf a ha], by obtain ⟨h1, h2⟩ := h.wf; exact ⟨by simp [h1], h2⟩⟩
theorem PicAt.setByt {w : World} {b : Nat} {m : Mem} (h : PicAt w b m) (a : Nat) (x : UInt8) : PicAt (w.setCell ⟨b, 128 + a, none⟩ (.int .u8 (x.toNat : Int))) b ⟨m.cov, m.byt.set a x⟩ :=
  ⟨by rw [heap_setCell_at _ _ _ _ _ _ _ h.hb, memV_setByt h.wf a], by obtain ⟨h1, h2⟩ := h.wf; exact ⟨h1, by simp [h2]⟩⟩
theorem PicAt.lt {w : World} {b : Nat} {m : Mem} (h : PicAt w b m) : b < w.heap.size := (Array.getElem?_eq_some_iff.1 h.hb).1
theorem PicAt.kept {w w' : World} {b : Nat} {m : Mem} (h : PicAt w b m) (hb : Below w.heap.size w w') : PicAt w' b m := ⟨by rw [hb.block b h.lt]; exact h.hb, h.wf⟩

theorem PicAt.drew {w : World} {b : Nat} {m : Mem} (h : PicAt w b m) : PicAt w.drew b m := ⟨h.hb, h.wf⟩
theorem PicAt.keptO {w w' : World} {b : Nat} {m : Mem} {S : Nat → Prop} (h : PicAt w b m) (ho : Only S w w') (hs : ¬ S b) : PicAt w' b m := ⟨by rw [ho.block b h.lt hs]; exact h.hb, h.wf⟩

theorem zero63 : Tryd.zeroCells100 = memV mem0 := by kernel_rfl
theorem memV_size {m : Mem} (h : m.wf) : (memV m).size = 256 := by
  obtain ⟨h1, h2⟩ := h
  simp [memV, h1, h2]
theorem memV_one (m : Mem) : (memV m).all (·.oneCell') = true := by
  rw [Array.all_eq_true_iff_forall_mem]
  intro x hx
  simp only [memV, List.mem_toArray, List.mem_append, List.mem_map] at hx
  rcases hx with ⟨y, _, rfl⟩ | ⟨y, _, rfl⟩ <;> rfl
theorem Tryd.size100 : (Tryd.prog.info? 100).map (·.size) = some 256 := by kernel_rfl

/-- all segments laid, whether or not they clash; and: does none? -/
def drawStep (p : Mem × Bool) (s : Seg) : Mem × Bool := (p.1.putS s, p.2 && p.1.freeS s)
def drawAll (l : List Seg) : Mem × Bool := l.foldl drawStep (mem0, true)
theorem drawAll_snoc (l : List Seg) (k : Nat) (h : k < l.length) : drawAll (l.take (k + 1)) = drawStep (drawAll (l.take k)) l[k] := by
  unfold drawAll
  rw [List.take_succ_eq_append_getElem h, List.foldl_append]; rfl
theorem drawStep_wf {p : Mem × Bool} (h : p.1.wf) (s : Seg) : (drawStep p s).1.wf := Mem.putN_wf h _ _ _
theorem drawAll_wf (l : List Seg) : (drawAll l).1.wf := by
  unfold drawAll
  suffices ∀ p : Mem × Bool, p.1.wf → (l.foldl drawStep p).1.wf from this _ mem0_wf
  induction l with
  | nil => intro p h; exact h
  | cons s r ih => intro p h; exact ih _ (drawStep_wf h s)

set_option maxRecDepth 100000 in
set_option maxHeartbeats 1000000 in
theorem proper_any (w : World) (s : Seg) (h : s.ok) :
    Calls Tryd.prog 68 #[s.v] w fun e w' => e = .returned (.bool s.fits) ∧ Below w.heap.size w w' := by
  obtain ⟨a, z, d⟩ := s
  obtain ⟨a0, a1, s0, s1, d1⟩ := h
  simp only [Seg.v] at *
  by_cases h1 : a < 0
  · have hf : Seg.fits ⟨a, z, d⟩ = false := by simp [Seg.fits]; omega
    rw [hf]; clear hf
    go_enter Tryd.func68, Tryd.ntmps68
    go_wp2
    go_ret
    exact ⟨rfl, (Below.refl _ _).alloc (Nat.le_refl _) _⟩
  by_cases h2 : 128 < a
  · have hf : Seg.fits ⟨a, z, d⟩ = false := by simp [Seg.fits]; omega
    rw [hf]; clear hf
    go_enter Tryd.func68, Tryd.ntmps68
    go_wp2
    go_ret
    exact ⟨rfl, (Below.refl _ _).alloc (Nat.le_refl _) _⟩
  by_cases h3 : z < 1
  · have hf : Seg.fits ⟨a, z, d⟩ = false := by simp [Seg.fits]; omega
    rw [hf]; clear hf
    go_enter Tryd.func68, Tryd.ntmps68
    go_wp2
    go_ret
    exact ⟨rfl, (Below.refl _ _).alloc (Nat.le_refl _) _⟩
  by_cases h4 : 128 < z
  · have hf : Seg.fits ⟨a, z, d⟩ = false := by simp [Seg.fits]; omega
    rw [hf]; clear hf
    go_enter Tryd.func68, Tryd.ntmps68
    go_wp2
    go_ret
    exact ⟨rfl, (Below.refl _ _).alloc (Nat.le_refl _) _⟩
  by_cases h5 : a + z ≤ 128
  · have hf : Seg.fits ⟨a, z, d⟩ = decide ((d.size : Int) ≤ z) := by simp only [Seg.fits]; simp [show 0 ≤ a by omega, show 1 ≤ z by omega, show a ≤ 128 - z by omega]
    rw [hf]; clear hf
    go_enter Tryd.func68, Tryd.ntmps68
    go_wp2
    go_ret
    exact ⟨rfl, (Below.refl _ _).alloc (Nat.le_refl _) _⟩
  · have hf : Seg.fits ⟨a, z, d⟩ = false := by simp [Seg.fits]; omega
    rw [hf]; clear hf
    go_enter Tryd.func68, Tryd.ntmps68
    go_wp2
    go_ret
    exact ⟨rfl, (Below.refl _ _).alloc (Nat.le_refl _) _⟩

theorem results_cell_tmp {P : Program} {fn : Func} {p t : Tmp} {ty : TypeId} (h : fn.results = #[.cell p ty, .tmp t]) (tmps : Array Value) (w : World) (g : Nat) (tt : TypeId) (cs : Array Value) (fr : Nat × Nat) (d : TypeDesc)
    (hp : tmps.getD p undef = .pointer (some ⟨g, 0, none⟩)) (hg : w.heap[g]? = some (.cells cs tt fr))
    (hu : P.underlying ty = some d) (hd : (match d with | .struct _ | .array _ _ => true | _ => false) = true) (hi : (P.info? ty).map (·.size) = some cs.size) :
    (results fn tmps).run P w = .ok (.tuple #[.agg cs, tmps.getD t undef]) w := by
  have hp' : tmps[p]?.getD undef = .pointer (some ⟨g, 0, none⟩) := by simpa using hp
  simp [results, h, hp', asAddr, run_loadVar_row w g tt ty cs fr d hg hu hd hi]
theorem heap_setRow_at (w : World) (g : Nat) (old cs : Array Value) (t : TypeId) (fr : Nat × Nat) (h : w.heap[g]? = some (.cells old t fr)) : (w.setRow g cs).heap[g]? = some (.cells cs t fr) := by
  simp [World.setRow, Array.getElem?_modify, h]
theorem below_setRow2 {B : Nat} {a w : World} (h : Below B a w) {g : Nat} (hp : B ≤ g) (cs : Array Value) : Below B a (w.setRow g cs) :=
  h.trans ⟨rfl, rfl, rfl, by simp, fun k hk => by simp only [World.setRow, Array.getElem?_modify]; rw [if_neg (by omega)]⟩

set_option maxRecDepth 100000 in
set_option maxHeartbeats 4000000 in
theorem drawn_any (w : World) (a : Option Addr) (b o cap : Nat) (l : List Seg) (ha : l ≠ [] → a = some ⟨b, o, none⟩) (hl : SegsAt w b o l) (hfit : ∀ s ∈ l, s.fits = true) (hb : l ≠ [] → b < w.heap.size) (hlen : l.length < 4611686018427387904) :
    Calls Tryd.prog 56 #[.slice a l.length cap] w fun e w' => e = .returned (.tuple #[.agg (memV (drawAll l).1), .bool (drawAll l).2]) ∧ Below w.heap.size w w' := by
  go_enter Tryd.func56, Tryd.ntmps56
  go_wp2
  go_loopw [5, 6, 7, 8] (fun c i _ _ wr => ∃ k : Nat, k ≤ l.length ∧ i = .int .i64 k ∧ (∃ p : Mem × Bool, Hid (p = drawAll (l.take k)) ∧ c = .bool p.2 ∧ PicAt wr (w.heap.size + 1) p.1) ∧ wr.heap[w.heap.size]? = some (.cells Tryd.zeroCells100 100 (0, 0)) ∧ Below w.heap.size w wr) (fun _ i _ _ _ => l.length - (intOf i).toNat)
  case atStart =>
    refine ⟨0, by omega, rfl, ⟨(mem0, true), rfl, rfl, ⟨?_, mem0_wf⟩⟩, by rw [heap_alloc2_old], ((Below.refl _ _).alloc (Nat.le_refl _) _).alloc (by simp) _⟩
    rw [heap_alloc2_new, zero63]
  case round =>
    obtain ⟨k, hk, rfl, ⟨p, hp, rfl, hpic⟩, hz, hbel⟩ := hrel
    obtain ⟨wo, rfl⟩ : ∃ wo : World, wo = wr := ⟨_, rfl⟩
    by_cases hlt : k < l.length
    · have hne : l ≠ [] := by intro e; simp [e] at hlt
      obtain rfl := ha hne
      have hb' := hb hne
      obtain ⟨c1, c2, c3⟩ := hl k hlt
      have d1 : wo.cell? ⟨b, o + k * 3, none⟩ = some (.int .i64 l[k].addr) := (hbel.cell (p := ⟨b, o + k * 3, none⟩) hb').trans c1
      have d2 : wo.cell? ⟨b, o + k * 3 + 1, none⟩ = some (.int .i64 l[k].size) := (hbel.cell (p := ⟨b, o + k * 3 + 1, none⟩) hb').trans c2
      have d3 : wo.cell? ⟨b, o + k * 3 + 2, none⟩ = some (.string l[k].data) := (hbel.cell (p := ⟨b, o + k * 3 + 2, none⟩) hb').trans c3
      clear c1 c2 c3
      have hf := hfit l[k] (List.getElem_mem hlt)
      have hp1 : Hid (drawAll (l.take (k + 1)) = drawStep p l[k]) := by unfold Hid; rw [drawAll_snoc l k hlt, ← hp.out]
      obtain ⟨sg, hsg⟩ : ∃ sg, sg = l[k] := ⟨_, rfl⟩
      rw [← hsg] at d1 d2 d3 hf hp1
      clear hsg
      obtain ⟨x, z, d⟩ := sg
      obtain ⟨f1, f2, f3, f4⟩ := (Seg.fits_iff _).1 hf
      dsimp only at f1 f2 f3 f4 d1 d2 d3
      obtain ⟨x, rfl⟩ : ∃ k : Nat, x = k := ⟨x.toNat, by omega⟩
      obtain ⟨z, rfl⟩ : ∃ k : Nat, z = k := ⟨z.toNat, by omega⟩
      have hp2 : Hid (drawStep p ⟨x, z, d⟩ = (p.1.putN x d z, p.2 && p.1.freeN x d z)) := rfl
      have hxz : x + z ≤ 128 := by omega
      have hdz : d.size ≤ z := by omega
      clear f1 f3 f4 hf
      go_wp2
      have hpic1 : PicAt (wo.alloc (.cells #[.int .i64 x, .int .i64 z, .string d] 109)) (w.heap.size + 1) (p.1.putN x d 0) := hpic.kept ((Below.refl _ _).alloc (Nat.le_refl _) _)
      have hz1 : (wo.alloc (.cells #[.int .i64 x, .int .i64 z, .string d] 109)).heap[w.heap.size]? = some (.cells Tryd.zeroCells100 100 (0, 0)) := by
        rw [Below.heap_alloc _ _ _ (Array.getElem?_eq_some_iff.1 hz).1]; exact hz
      have hbel1 : Below w.heap.size w (wo.alloc (.cells #[.int .i64 x, .int .i64 z, .string d] 109)) := hbel.alloc hbel.size _
      have hsb : (wo.alloc (.cells #[.int .i64 x, .int .i64 z, .string d] 109)).heap[wo.heap.size]? = some (.cells #[.int .i64 x, .int .i64 z, .string d] 109 (0, 0)) := heap_alloc_new _ _
      have hlt2 := hpic.lt
      generalize wo.alloc (.cells #[.int .i64 x, .int .i64 z, .string d] 109) = w1 at *
      generalize wo.heap.size = sb at *
      clear hpic hz hbel d1 d2 d3
      go_loopw [5, 8] (fun c i wr => ∃ j : Nat, j ≤ z ∧ i = .int .i64 j ∧ c = .bool (p.2 && p.1.freeN x d j) ∧ PicAt wr (w.heap.size + 1) (p.1.putN x d j) ∧ Only (· = w.heap.size + 1) w1 wr) (fun _ i _ => z - (intOf i).toNat)
      case atStart => exact ⟨0, by omega, rfl, by simp [Mem.freeN], hpic1, Only.refl _ _⟩
      case round =>
        obtain ⟨j, hj, rfl, rfl, hpj, hon⟩ := hrel
        have hBr : wr.heap[sb]? = some (.cells #[.int .i64 x, .int .i64 z, .string d] 109 (0, 0)) := by rw [hon.block _ (Array.getElem?_eq_some_iff.1 hsb).1 (by omega)]; exact hsb
        have q0 : wr.cell? ⟨sb, 0, none⟩ = some (.int .i64 x) := by rw [cell_of_heap hBr]; rfl
        have q1 : wr.cell? ⟨sb, 1, none⟩ = some (.int .i64 z) := by rw [cell_of_heap hBr]; rfl
        have q2 : wr.cell? ⟨sb, 2, none⟩ = some (.string d) := by rw [cell_of_heap hBr]; rfl
        clear hBr
        have hnsb : ¬ sb = w.heap.size + 1 := by omega
        by_cases hjlt : j < z
        · have hcv := hpj.cov (x + j) (by omega)
          have hfz := hpj.free
          have hm1 := hpj.setCov (x + j) (by omega) true
          have hfr : Hid (p.1.freeN x d (j + 1) = (p.1.freeN x d j && !(p.1.putN x d j).c (x + j))) := rfl
          by_cases hjd : j < d.size
          · have hby2 : (wr.setCell ⟨w.heap.size + 1, x + j, none⟩ (.bool true)).cell? ⟨w.heap.size + 1, 128 + (x + j), none⟩ = some (.int .u8 (((p.1.putN x d j).b (x + j)).toNat : Int)) := hm1.byt (x + j) (by omega)
            have hfz2 := hm1.free
            have q22 : (wr.setCell ⟨w.heap.size + 1, x + j, none⟩ (.bool true)).cell? ⟨sb, 2, none⟩ = some (.string d) := by
              rw [World.cell?_of_block (w := wr) (Below.heap_setCell _ _ _ _ hnsb)]; exact q2
            have q20 : (wr.setCell ⟨w.heap.size + 1, x + j, none⟩ (.bool true)).cell? ⟨sb, 0, none⟩ = some (.int .i64 x) := by
              rw [World.cell?_of_block (w := wr) (Below.heap_setCell _ _ _ _ hnsb)]; exact q0
            have hon2 : Only (· = w.heap.size + 1) w1 (wr.setCell ⟨w.heap.size + 1, x + j, none⟩ (.bool true)) := hon.setCell (by exact rfl) _
            cases hcc : (p.1.putN x d j).c (x + j)
            all_goals
              rw [hcc] at hcv hfr
              go_wp2
              generalize wr.setCell ⟨w.heap.size + 1, x + j, none⟩ (.bool true) = wx at *
              clear hpj hcv hfz q0 q1 q2 hon
              go_region
              all_goals go_wp2
              go_roundw
              case rel =>
                refine ⟨j + 1, by omega, by go_num, by rw [hfr.out]; simp, ?_, (hon2.setCell (by exact rfl) _).drew⟩
                have := (hm1.setByt (x + j) (d.data.toList.getD j 0)).drew
                rw [ba_getD d j hjd] at this
                simp only [Mem.putN, Mem.put, if_pos hjd]
                rw [ba_getD d j hjd]
                exact this
              case measure => simp [intOf]; omega
          · have hon2 : Only (· = w.heap.size + 1) w1 (wr.setCell ⟨w.heap.size + 1, x + j, none⟩ (.bool true)) := hon.setCell (by exact rfl) _
            have q22 : (wr.setCell ⟨w.heap.size + 1, x + j, none⟩ (.bool true)).cell? ⟨sb, 2, none⟩ = some (.string d) := by
              rw [World.cell?_of_block (w := wr) (Below.heap_setCell _ _ _ _ hnsb)]; exact q2
            cases hcc : (p.1.putN x d j).c (x + j)
            all_goals
              rw [hcc] at hcv hfr
              go_wp2
              go_roundw
              case rel =>
                refine ⟨j + 1, by omega, by go_num, by rw [hfr.out]; simp, ?_, hon2⟩
                simp only [Mem.putN, Mem.put, if_neg hjd]
                exact hm1
              case measure => simp [intOf]; omega
        · have hjz : j = z := by omega
          subst hjz
          go_wp2
          go_roundw
          case rel =>
            refine ⟨k + 1, by omega, by go_num, ⟨(p.1.putN x d j, p.2 && p.1.freeN x d j), by unfold Hid; rw [hp1.out, hp2.out], rfl, hpj⟩, ?_, ?_⟩
            · rw [hon.block _ (Array.getElem?_eq_some_iff.1 hz1).1 (by omega)]; exact hz1
            · exact hbel1.trans (hon.below hbel1.size (fun k hk => by omega))
          case measure => simp [intOf]; omega
    · have hall : Hid (p = drawAll l) := by
        have := hp.out
        rwa [List.take_of_length_le (by omega)] at this
      have hs1 := memV_size hpic.wf
      have hs0 : Tryd.zeroCells100.size = 256 := by rw [zero63]; exact memV_size mem0_wf
      have hsi : (Tryd.prog.info? 100).map (·.size) = some (memV p.1).size := by rw [hs1]; exact Tryd.size100
      have hone := memV_one p.1
      have hpb := hpic.hb
      have hzz := hz
      obtain ⟨cells, hcl⟩ : ∃ cells, cells = memV p.1 := ⟨_, rfl⟩
      have HCL : Hid (cells = memV p.1) := hcl
      rw [← hcl] at hs1 hsi hone hpb
      clear hcl
      go_wp2_with (first
        | (refine wpList_load_row rfl 100 _ rfl (w.heap.size + 1) rfl 100 cells (0, 0) _ hpb Tryd.underlying100 rfl hsi ?_)
        | (refine wpList_store_row rfl 100 _ _ rfl w.heap.size cells rfl rfl 100 _ hzz hsi (by rw [hs0, hs1]) hone ?_))
      refine bodyPost_ret (results_cell_tmp rfl _ _ w.heap.size 100 cells (0, 0) _ rfl (heap_setRow_at _ _ _ _ _ _ hzz) Tryd.underlying100 rfl hsi) rfl ⟨?_, below_setRow2 hbel (Nat.le_refl _) _⟩
      rw [← hall.out, ← HCL.out]; rfl
end Go.Proofs.YtpfdfpeomofabaaDoor

namespace Go.Proofs.YtpfdfpeomofabaaDoor
open Go.RowKit

theorem endFrom_cov (m : Mem) (a j : Nat) (h1 : a ≤ j) (h2 : j < endFrom m a) : m.c j = true := by
  refine up_ind (p := fun a => a ≤ j → j < endFrom m a → m.c j = true) (fun a ih h1 h2 => ?_) a h1 h2
  by_cases h : a < 128 ∧ m.c a = true
  · rw [endFrom_go h.1 h.2] at h2
    by_cases e : a = j
    · subst e; exact h.2
    · exact ih h.1 (by omega) h2
  · rw [endFrom_stop h] at h2; omega
theorem endFrom_end (m : Mem) (a : Nat) : ¬ (endFrom m a < 128 ∧ m.c (endFrom m a) = true) := by
  refine up_ind (p := fun a => ¬ (endFrom m a < 128 ∧ m.c (endFrom m a) = true)) (fun a ih => ?_) a
  show ¬ (endFrom m a < 128 ∧ m.c (endFrom m a) = true)
  by_cases h : a < 128 ∧ m.c a = true
  · rw [endFrom_go h.1 h.2]; exact ih h.1
  · rw [endFrom_stop h]; exact h
theorem runsTo_stretch (m : Mem) (a n : Nat) (h : ∀ j, a < j → j < a + 1 + n → m.c (j - 1) = true) : runsTo m (a + 1 + n) = runsTo m (a + 1) := by
  induction n with
  | zero => rfl
  | succ n ih =>
    rw [show a + 1 + (n + 1) = (a + 1 + n) + 1 by omega, runsTo_succ, ih (fun j h1 h2 => h j h1 (by omega)), if_neg, List.append_nil]
    have hc := h (a + 1 + n) (by omega) (by omega)
    simp only [isStart, hc, Bool.and_true]
    rw [decide_eq_true (by omega)]; simp
theorem runsTo_run (m : Mem) (a : Nat) (h : isStart m a = true) (ha : a < 128) : runsTo m (endFrom m a) = runsTo m a ++ [runOf m a] := by
  have hc : m.c a = true := by simp only [isStart, Bool.and_eq_true] at h; exact h.1
  have h1 := endFrom_ge m (a + 1)
  rw [← endFrom_go ha hc] at h1
  obtain ⟨n, hn⟩ : ∃ n, endFrom m a = a + 1 + n := ⟨endFrom m a - (a + 1), by omega⟩
  rw [hn, runsTo_stretch m a n, runsTo_succ, if_pos h]
  intro j hj1 hj2
  exact endFrom_cov m a (j - 1) (by omega) (by omega)

theorem conv_one (w : World) (x : UInt8) :
    (convert 56 9 (.slice (some ⟨w.heap.size, 0, none⟩) 1 1)).run Tryd.prog (w.alloc (.cells #[.int .u8 (x.toNat : Int)] 5)) = .ok (.string (mk [x])) (w.alloc (.cells #[.int .u8 (x.toNat : Int)] 5)) :=
  conv_cells _ _ 1 _ [x] _ (heap_alloc_new w _) rfl

theorem take_one (l : List UInt8) (a n : Nat) (h : a + n < l.length) : (l.drop a).take (n + 1) = (l.drop a).take n ++ [l.getD (a + n) 0] := by
  rw [List.take_succ_eq_append_getElem (by simp; omega), getD_get l (a + n) h]; simp

theorem cells_new1 (w : World) (cs : Array Value) (t : TypeId) (news : List Value) (h : cs.toList = news) :
    ∀ (j : Nat) (u : Value), news[j]? = some u → (w.alloc (.cells cs t)).cell? (Addr.add ⟨w.heap.size, 0, none⟩ j) = some u := by
  intro j u hj
  have ha : (⟨w.heap.size, 0, none⟩ : Addr).add j = ⟨w.heap.size, j, none⟩ := by cases j <;> simp [Addr.add]
  rw [ha, cell_of_heap (heap_alloc_new w (.cells cs t)), ← hj, ← h, Array.getElem?_toList]

set_option maxRecDepth 100000 in
set_option maxHeartbeats 8000000 in
theorem refRuns_any (w : World) (m : Mem) (hw : m.wf) :
    Calls Tryd.prog 69 #[.agg (memV m)] w fun e w' => ∃ v, e = .returned v ∧ w'.ownsRow (w.heap.size + 1) 109 3 v (runsOf m).length (segCells (runsOf m)) ∧ Below w.heap.size w w' := by
  obtain ⟨i0, hi, hz0, hz1, hz2⟩ := info_parts Tryd.info109
  have hP0 : PicAt (w.alloc (.cells (memV m) 100)) w.heap.size m := ⟨heap_alloc_new _ _, hw⟩
  generalize memV m = cells at *
  go_enter Tryd.func69, Tryd.ntmps69
  go_wp2
  have hW0 : Below w.heap.size w (w.alloc (.cells cells 100)) := (Below.refl _ _).alloc (Nat.le_refl _) _
  have hW1 : w.heap.size < (w.alloc (.cells cells 100)).heap.size := by simp
  generalize w.alloc (.cells cells 100) = w0 at *
  go_loopw [3, 4, 5, 6, 7, 8] (fun v i _ _ _ _ wr => ∃ k : Nat, k ≤ 128 ∧ i = .int .i64 k ∧ wr.ownsRow (w.heap.size + 1) 109 3 v (runsTo m k).length (segCells (runsTo m k)) ∧ Hid (k < 128 → m.c k = true → isStart m k = true) ∧ Below (w.heap.size + 1) w0 wr) (fun _ i _ _ _ _ _ => 128 - (intOf i).toNat)
  case atStart => exact ⟨0, by omega, rfl, World.ownsRow_nil _ _ _ _, fun _ hc => by simp [isStart, hc], Below.refl _ _⟩
  case round =>
    obtain ⟨k, hk, rfl, hown, hJ, hbel⟩ := hrel
    obtain ⟨wo, rfl⟩ : ∃ wo : World, wo = wr := ⟨_, rfl⟩
    have hm : PicAt wo w.heap.size m := ⟨by rw [hbel.block _ (by omega)]; exact hP0.hb, hw⟩
    by_cases hlt : k < 128
    · have c1 := hm.cov k hlt
      have hlt' : (k : Int) < 128 := by omega
      cases hck : m.c k
      · rw [hck] at c1
        have hno : Hid (runsTo m (k + 1) = runsTo m k) := by unfold Hid; rw [runsTo_succ, if_neg (by simp [isStart, hck]), List.append_nil]
        have hJ1 : Hid (k + 1 < 128 → m.c (k + 1) = true → isStart m (k + 1) = true) := fun _ hc => by simp [isStart, hc, hck]
        clear hJ
        go_wp2
        go_roundw
        case rel => exact ⟨k + 1, by omega, by go_num, by rw [hno.out]; exact hown, hJ1, hbel⟩
        case measure => simp [intOf]; omega
      · rw [hck] at c1
        have hst := hJ.out hlt hck
        have hyes : Hid (runsTo m (endFrom m k) = runsTo m k ++ [runOf m k]) := runsTo_run m k hst hlt
        have hJ1 : Hid (endFrom m k < 128 → m.c (endFrom m k) = true → isStart m (endFrom m k) = true) := fun h1 h2 => absurd ⟨h1, h2⟩ (endFrom_end m k)
        have hge := endFrom_ge m (k + 1)
        rw [← endFrom_go hlt hck] at hge
        have hen := endFrom_le m k (by omega)
        have hdb := dataFrom_bd m k k (by omega) (by omega)
        clear hst hJ
        go_wp2
        have hloop1 := hm
        go_loop [4, 6] (fun x y => ∃ e de : Nat, e ≤ 128 ∧ x = .int .i64 e ∧ y = .int .i64 de ∧ de ≤ e ∧ k ≤ de ∧ k ≤ e ∧ Hid (endFrom m e = endFrom m k) ∧ Hid (dataFrom m e de = dataFrom m k k)) (fun x _ => 128 - (intOf x).toNat)
        case atStart => exact ⟨k, k, by omega, rfl, rfl, by omega, by omega, by omega, rfl, rfl⟩
        case round =>
          obtain ⟨e, de, he, rfl, rfl, h1, h2, h3, h4, h5⟩ := hrel
          by_cases hgo : e < 128 ∧ m.c e = true
          · obtain ⟨hlt2, hce⟩ := hgo
            have c3 := hm.cov e hlt2
            have c2 := hm.byt e hlt2
            rw [hce] at c3
            have hlt2' : (e : Int) < 128 := by omega
            have E1 : Hid (endFrom m (e + 1) = endFrom m k) := by unfold Hid; rw [← h4.out, endFrom_go hlt2 hce]
            clear hyes hown
            cases hbe : (m.b e == 0)
            · have E2 : Hid (dataFrom m (e + 1) (e + 1) = dataFrom m k k) := by
                unfold Hid; rw [← h5.out, dataFrom_go hlt2 hce, if_neg (by simpa using hbe)]
              have hne : ¬ ((m.b e).toNat : Int) = 0 := by
                intro hz
                have : (m.b e).toNat = 0 := by omega
                have : m.b e = 0 := UInt8.toNat_inj.1 this
                simp [this] at hbe
              clear hbe
              go_wp2
              go_round
              case rel => exact ⟨e + 1, e + 1, by omega, by go_num, by go_num, by omega, by omega, by omega, E1, E2⟩
              case measure => simp [intOf]; omega
            · have hbz : m.b e = 0 := by simpa using hbe
              have E2 : Hid (dataFrom m (e + 1) de = dataFrom m k k) := by
                unfold Hid; rw [← h5.out, dataFrom_go hlt2 hce, if_pos hbz]
              rw [hbz] at c2
              have c2' : wo.cell? ⟨w.heap.size, 128 + e, none⟩ = some (.int .u8 0) := c2
              clear hbe hbz c2
              go_wp2
              go_round
              case rel => exact ⟨e + 1, de, by omega, by go_num, rfl, by omega, by omega, by omega, E1, E2⟩
              case measure => simp [intOf]; omega
          · have E1 : Hid (endFrom m k = e) := by unfold Hid; rw [← h4.out, endFrom_stop hgo]
            have E2 : Hid (dataFrom m k k = de) := by unfold Hid; rw [← h5.out, dataFrom_stop hgo]
            have hyes2 : Hid (runsTo m e = runsTo m k ++ [⟨k, (e : Int) - k, ⟨((m.byt.drop k).take (de - k)).toArray⟩⟩]) := by
              unfold Hid
              have := hyes.out
              rw [E1.out] at this
              rw [this, runOf, E1.out, E2.out]
            have hJ2 : Hid (e < 128 → m.c e = true → isStart m e = true) := by
              have := hJ1.out
              rw [E1.out] at this
              exact this
            have hke : k < e := by have := hge; rw [E1.out] at this; omega
            clear hyes hJ1 hen hdb hge h4 h5 E1 E2
            have hec : Hid (e < 128 → m.c e = false) := by
              intro hx
              cases hy : m.c e
              · rfl
              · exact absurd ⟨hx, hy⟩ hgo
            have c3 : Hid (e < 128 → wo.cell? ⟨w.heap.size, e, none⟩ = some (.bool false)) := by
              intro hx
              have := hm.cov e hx
              rwa [hec.out hx] at this
            have hde128 : de ≤ 128 := by omega
            by_cases he128 : e < 128
            all_goals
              first
                | (have c4 := c3.out he128; have he128' : (e : Int) < 128 := by omega)
                | (have he128' : ¬ (e : Int) < 128 := by omega)
              go_wp2
              go_loopw [7, 8] (fun t j wr => ∃ n : Nat, k ≤ n ∧ n ≤ de ∧ j = .int .i64 n ∧ (∃ q : ByteArray, t = .string q ∧ q.size ≤ 128 ∧ Hid (q = mk ((m.byt.drop k).take (n - k)))) ∧ Below wo.heap.size wo wr) (fun _ j _ => de - (intOf j).toNat)
              case atStart => exact ⟨k, by omega, by omega, rfl, ⟨_, rfl, Nat.zero_le 128, by unfold Hid; rw [Nat.sub_self]; rfl⟩, Below.refl _ _⟩
              case round =>
                obtain ⟨n, hn1, hn2, rfl, ⟨q, rfl, hq, hqe⟩, hb2⟩ := hrel
                have hm2 : PicAt wr w.heap.size m := hm.kept hb2
                by_cases hnlt : n < de
                · have hby := hm2.byt n (by omega)
                  have hcv := conv_one wr (m.b n)
                  have hq2 : Hid (q ++ mk [m.b n] = mk ((m.byt.drop k).take (n + 1 - k))) := by
                    unfold Hid
                    rw [hqe.out, mk_append, show n + 1 - k = (n - k) + 1 by omega, take_one _ _ _ (by rw [hw.2]; omega), show k + (n - k) = n by omega]; rfl
                  have hq3 : Hid ((mk ((m.byt.drop k).take (n + 1 - k))).size ≤ 128) := by
                    unfold Hid; rw [mk_size, List.length_take, List.length_drop, hw.2]; omega
                  obtain ⟨x1, hx1⟩ : ∃ x1, x1 = mk [m.b n] := ⟨_, rfl⟩
                  have hx2 : x1.size = 1 := by rw [hx1, mk_size]; rfl
                  rw [← hx1] at hcv hq2
                  clear hx1 hown hyes2
                  have hnlt' : (n : Int) < 128 := by omega
                  go_wp2
                  go_roundw
                  case rel => exact ⟨n + 1, by omega, by omega, by go_num, ⟨_, rfl, by rw [hq2.out]; exact hq3.out, hq2⟩, hb2.alloc (Nat.le_trans (Nat.le_refl _) hb2.size) _⟩
                  case measure => simp [intOf]; omega
                · have hnd : n = de := by omega
                  subst hnd
                  have hsg : Hid (segCells (runsTo m e) = segCells (runsTo m k) ++ [.int .i64 k, .int .i64 ((e : Int) - k), .string q]) := by
                    unfold Hid; rw [hyes2.out, segCells_append, hqe.out]; rfl
                  have hln : Hid ((runsTo m e).length = (runsTo m k).length + 1) := by unfold Hid; rw [hyes2.out]; simp
                  have hrl := runsTo_length m k
                  clear hyes2
                  go_wp2_with (at_builtin; refine wpList_append_own _ rfl _ _ 93 rfl (w.heap.size + 1) 109 i0 _ 3 32 Tryd.underlying93 hi hz0 hz1 hz2 rfl (by decide) _ _ _ rfl ((ownsRow_below hown hb2).alloc _) ⟨wr.heap.size, 0, none⟩ 1 1 [.int .i64 k, .int .i64 ((e : Int) - k), .string q] rfl rfl ?c1 ?c2 ?c3 ?c4 ?c5 ?_)
                  case c1 => exact cells_new1 wr _ _ _ rfl
                  case c2 => intro u hu; simp at hu; rcases hu with rfl | rfl | rfl <;> rfl
                  case c3 => unfold maxLen; omega
                  case c4 => omega
                  case c5 => have := hbel.size; have := hb2.size; simp; omega
                  intro v' w4 hown4 hgr4 _
                  have hbl4 : Below (w.heap.size + 1) w0 w4 := by
                    refine ((hbel.trans (hb2.mono ?_)).alloc ?_ _).grown hgr4 ?_ ?_
                    · have := hbel.size; omega
                    · have := hbel.size; have := hb2.size; omega
                    · have := hbel.size; have := hb2.size; simp; omega
                    · exact own_lt hown
                  rw [← hsg.out, ← hln.out] at hown4
                  clear hgr4 hown hbel hb2 hm hm2 c1
                  go_wp2
                  go_roundw
                  case rel => exact ⟨e, by omega, rfl, hown4, hJ2, hbl4⟩
                  case measure => simp [intOf]; omega
    · have hk2 : k = 128 := by omega
      subst hk2
      go_wp2
      go_ret
      exact ⟨_, rfl, hown, hW0.trans (hbel.mono (by omega))⟩
end Go.Proofs.YtpfdfpeomofabaaDoor

namespace Go.Proofs.YtpfdfpeomofabaaDoor
open Go.RowKit

theorem conv_oneI (w : World) (n : Int) :
    (convert 56 9 (.slice (some ⟨w.heap.size, 0, none⟩) 1 1)).run Tryd.prog (w.alloc (.cells #[.int .u8 (n % 256)] 5)) = .ok (.string (mk [byteOf n])) (w.alloc (.cells #[.int .u8 (n % 256)] 5)) :=
  conv_cells _ _ 1 _ [byteOf n] _ (heap_alloc_new w _) (by rw [byteOf_val]; rfl)

set_option maxRecDepth 100000 in
theorem one_any (w : World) (n : Int) : Calls Tryd.prog 71 #[.int .i64 n] w fun e w' => e = .returned (.string (mk [byteOf n])) ∧ w' = w.alloc (.cells #[.int .u8 (n % 256)] 5) := by
  have hcv := conv_oneI w n
  generalize mk [byteOf n] = r at *
  go_enter Tryd.func71, Tryd.ntmps71
  go_wp2
  go_ret
  exact ⟨rfl, rfl⟩
theorem one_bel (w : World) (n : Int) : Calls Tryd.prog 71 #[.int .i64 n] w fun e w' => e = .returned (.string (mk [byteOf n])) ∧ Below w.heap.size w w' := by
  refine (one_any w n).mono ?_
  rintro e w' ⟨rfl, rfl⟩
  exact ⟨rfl, (Below.refl _ _).alloc (Nat.le_refl _) _⟩

set_option maxRecDepth 100000 in
theorem two_any (w : World) (n : Int) (h0 : 0 ≤ n) (h1 : n < 9223372036854775808) : Calls Tryd.prog 70 #[.int .i64 n] w fun e w' => e = .returned (.string (mk [byteOf (n / 256), byteOf (n % 256)])) ∧ Below w.heap.size w w' := by
  have H1 := fun w => one_bel w (n / 256)
  have H2 := fun w => one_bel w (n % 256)
  have HA : Hid (mk [byteOf (n / 256)] ++ mk [byteOf (n % 256)] = mk [byteOf (n / 256), byteOf (n % 256)]) := by unfold Hid; rw [mk_append]; rfl
  obtain ⟨r1, hr1⟩ : ∃ r, r = mk [byteOf (n / 256)] := ⟨_, rfl⟩
  obtain ⟨r2, hr2⟩ : ∃ r, r = mk [byteOf (n % 256)] := ⟨_, rfl⟩
  have z1 : r1.size = 1 := by rw [hr1, mk_size]; rfl
  have z2 : r2.size = 1 := by rw [hr2, mk_size]; rfl
  rw [← hr1] at H1 HA
  rw [← hr2] at H2 HA
  clear hr1 hr2
  go_enter Tryd.func70, Tryd.ntmps70
  go_wp2_with (first
    | (go_at_call 71; refine (H1 _).mono ?_; rintro e w2 ⟨rfl, hb2⟩; clear H1)
    | (go_at_call 71; refine (H2 _).mono ?_; rintro e w3 ⟨rfl, hb3⟩))
  go_ret
  exact ⟨ret_str HA.out, hb2.trans (hb3.mono hb2.size)⟩
end Go.Proofs.YtpfdfpeomofabaaDoor

namespace Go.Proofs.YtpfdfpeomofabaaDoor
open Go.RowKit

theorem run_copy_segs (w : World) (ty : TypeId) (g n sCap : Nat) (a : Addr) (cur : Array Value) (t : TypeId) (cs : List Value)
    (hg : w.heap[g]? = some (.cells cur t (0, 0))) (hn : cs.length = n * 3)
    (hsrc : ∀ j v, cs[j]? = some v → w.cell? (a.add j) = some v) (hfit : cs.length ≤ cur.size) (h1 : ∀ v ∈ cs, v.oneCell' = true) :
    (Builtin.copy_ #[93, 93] ty #[.slice (some ⟨g, 0, none⟩) (n + 1) (n + 1), .slice (some a) n sCap]).run Tryd.prog w =
      .ok (goInt n) (w.setRow g (cs ++ cur.toList.drop cs.length).toArray) := by
  have hl := run_loadCells_list (P := Tryd.prog) w a cs hsrc
  have hst := run_storeCells_at Tryd.prog g 0 t cs 0 cur w hg (by simpa using hfit) h1
  obtain ⟨i, hi, h0, h1, h2⟩ := info_parts Tryd.info109
  have hmin : Nat.min n (n + 1) = n := Nat.min_eq_left (by omega)
  rw [hn] at hl
  simp [Builtin.copy_, run_underlying Tryd.underlying93, Builtin.lenOf, Builtin.firstCells, sizeOf, typeInfo, hi, h1, hmin, hl, hst]

def markSeg : Seg := ⟨-7, -7, ⟨#[109, 97, 114, 107]⟩⟩

theorem seg_one (l : List Seg) : ∀ v ∈ segCells l, v.oneCell' = true := by
  intro v hv
  unfold segCells at hv
  obtain ⟨s, _, h⟩ := List.mem_flatMap.1 hv
  simp at h
  rcases h with rfl | rfl | rfl <;> rfl

theorem segs_src {w : World} {b o : Nat} {l : List Seg} (h : SegsAt w b o l) : ∀ (j : Nat) (v : Value), (segCells l)[j]? = some v → w.cell? (Addr.add ⟨b, o, none⟩ j) = some v := by
  intro j v hv
  have hj : j < l.length * 3 := by
    have := (List.getElem?_eq_some_iff.1 hv).1
    rwa [segCells_length] at this
  have ha : (⟨b, o, none⟩ : Addr).add j = ⟨b, o + j, none⟩ := by cases j <;> simp [Addr.add]
  rw [ha]
  have hi : j / 3 < l.length := by omega
  obtain ⟨c1, c2, c3⟩ := h (j / 3) hi
  obtain ⟨g1, g2, g3⟩ := segCells_get l (j / 3) hi
  have hm : j % 3 = 0 ∨ j % 3 = 1 ∨ j % 3 = 2 := by omega
  rcases hm with hm | hm | hm
  · rw [show o + j = o + j / 3 * 3 by omega, c1, ← g1, ← hv, show j / 3 * 3 = j by omega]
  · rw [show o + j = o + j / 3 * 3 + 1 by omega, c2, ← g2, ← hv, show j / 3 * 3 + 1 = j by omega]
  · rw [show o + j = o + j / 3 * 3 + 2 by omega, c3, ← g3, ← hv, show j / 3 * 3 + 2 = j by omega]

theorem make_segs (w : World) (n : Nat) (h : n * 32 ≤ 281474976710656) :
    ∃ cur : Array Value, cur.size = n * 3 ∧ (Instr.makeSlice 93 (.int .i64 (n : Int)) (.int .i64 (n : Int))).run Tryd.prog w = .ok (.slice (some ⟨w.heap.size, 0, none⟩) n n) (w.alloc (.cells cur 109)) := by
  obtain ⟨i, hi, h0, h1, h2⟩ := info_parts Tryd.info109
  have := run_make (P := Tryd.prog) w 93 109 i _ Tryd.underlying93 hi h0 .i64 .i64 n n (by omega) (by omega) (by rw [h2]; omega) (by omega)
  rw [h1, Int.toNat_natCast] at this
  exact ⟨_, size_madeCells _ _, this⟩

theorem set3 (A : List Value) (n : Nat) (c0 c1 c2 x y z : Value) (h : A.length = n * 3) :
    (((A ++ [c0, c1, c2]).toArray.setIfInBounds (n * 3) x).setIfInBounds (n * 3 + 1) y).setIfInBounds (n * 3 + 2) z = (A ++ [x, y, z]).toArray := by
  simp only [List.setIfInBounds_toArray]
  rw [List.set_append_right _ _ (by omega), List.set_append_right _ _ (by omega), List.set_append_right _ _ (by omega), h]
  simp [Nat.add_sub_cancel_left]
theorem three (l : List Value) (h : l.length = 3) : ∃ a b c, l = [a, b, c] := by
  match l, h with
  | [a, b, c], _ => exact ⟨a, b, c, rfl⟩

theorem segs_of_row {w : World} {g : Nat} {l : List Seg} {cs : List Value} (h : w.heap[g]? = some (.cells cs.toArray 109 (0, 0))) (hc : ∃ r, cs = segCells l ++ r) : SegsAt w g 0 l := by
  obtain ⟨r, rfl⟩ := hc
  intro i hi
  obtain ⟨g1, g2, g3⟩ := segCells_get l i hi
  have hl := segCells_length l
  refine ⟨?_, ?_, ?_⟩ <;> rw [cell_of_heap h, List.getElem?_toArray, Nat.zero_add, List.getElem?_append_left (by omega)] <;> assumption

theorem ckL {w : World} {p : Addr} {u : Value} (h : w.cell? p = some u) (o : Obj) : (w.alloc o).cell? p = some u := by
  rw [World.cell?_of_block (w := w) (Below.heap_alloc w o _ (World.block_lt_of_cell? w p h))]; exact h

end Go.Proofs.YtpfdfpeomofabaaDoor

namespace Go.Proofs.YtpfdfpeomofabaaDoor
open Go.RowKit

end Go.Proofs.YtpfdfpeomofabaaDoor

namespace Go.Proofs.YtpfdfpeomofabaaDoor
open Go.RowKit

theorem lay_draw_aux (l : List Seg) (hf : ∀ s ∈ l, s.fits = true) : ∀ (m : Mem) (c : Bool), l.foldlM Mem.step m = (if (l.foldl drawStep (m, true)).2 then some (l.foldl drawStep (m, true)).1 else none) ∧ (l.foldl drawStep (m, c)).1 = (l.foldl drawStep (m, true)).1 ∧ (l.foldl drawStep (m, false)).2 = false := by
  induction l with
  | nil => intro m c; exact ⟨rfl, rfl, rfl⟩
  | cons s r ih =>
    intro m c
    have hs := hf s (by simp)
    have ih' := ih (fun x hx => hf x (by simp [hx]))
    have e1 : drawStep (m, true) s = (m.putS s, m.freeS s) := by simp [drawStep]
    have e2 : drawStep (m, c) s = (m.putS s, c && m.freeS s) := rfl
    have e3 : drawStep (m, false) s = (m.putS s, false) := by simp [drawStep]
    simp only [List.foldl_cons, List.foldlM_cons, e1, e2, e3]
    refine ⟨?_, ?_, (ih' _ false).2.2⟩
    · cases hfr : m.freeS s
      · have hst : m.step s = none := by simp [Mem.step, hfr]
        rw [hst, (ih' _ false).2.2]; rfl
      · have hst : m.step s = some (m.putS s) := by simp [Mem.step, hfr, hs]
        rw [hst]; exact (ih' _ true).1
    · rw [(ih' (m.putS s) (c && m.freeS s)).2.1, (ih' (m.putS s) (m.freeS s)).2.1]
theorem lay_draw (l : List Seg) (hf : ∀ s ∈ l, s.fits = true) : layAll l = if (drawAll l).2 then some (drawAll l).1 else none := (lay_draw_aux l hf mem0 true).1

theorem ck {w : World} {p : Addr} {u : Value} (h : w.cell? p = some u) (o : Obj) : (w.alloc o).cell? p = some u := by
  rw [World.cell?_of_block (w := w) (Below.heap_alloc w o _ (World.block_lt_of_cell? w p h))]; exact h
theorem ck0 {w : World} {p q r : Addr} {u v x : Value} (h1 : w.cell? p = some u) (h2 : w.cell? q = some v) (h3 : w.cell? r = some x) : w.drew.cell? p = some u ∧ w.drew.cell? q = some v ∧ w.drew.cell? r = some x := ⟨h1, h2, h3⟩
theorem ck1 {w : World} {p q r : Addr} {u v x : Value} (h1 : w.cell? p = some u) (h2 : w.cell? q = some v) (h3 : w.cell? r = some x) (a : Obj) : (w.alloc a).drew.cell? p = some u ∧ (w.alloc a).drew.cell? q = some v ∧ (w.alloc a).drew.cell? r = some x := ⟨ck h1 a, ck h2 a, ck h3 a⟩
theorem ck2 {w : World} {p q r : Addr} {u v x : Value} (h1 : w.cell? p = some u) (h2 : w.cell? q = some v) (h3 : w.cell? r = some x) (a b : Obj) : ((w.alloc a).alloc b).drew.cell? p = some u ∧ ((w.alloc a).alloc b).drew.cell? q = some v ∧ ((w.alloc a).alloc b).drew.cell? r = some x := ck1 (ck h1 a) (ck h2 a) (ck h3 a) b
theorem ck3 {w : World} {p q r : Addr} {u v x : Value} (h1 : w.cell? p = some u) (h2 : w.cell? q = some v) (h3 : w.cell? r = some x) (a b c : Obj) : (((w.alloc a).alloc b).alloc c).drew.cell? p = some u ∧ (((w.alloc a).alloc b).alloc c).drew.cell? q = some v ∧ (((w.alloc a).alloc b).alloc c).drew.cell? r = some x := ck2 (ck h1 a) (ck h2 a) (ck h3 a) b c

theorem store_pic {ops : Array Oper} {rest : List Oper} {o : Oper} {a : Act} {Q : Exit → Act → World → Prop} (w2 : World) (hgd : o.guard = none) (x y : Operand) (ho : o.op = .store 100 x y) (cells : Array Value)
    (hx : a.eval x = .pointer (some ⟨w2.heap.size, 0, none⟩)) (hy : a.eval y = .agg cells) (m : Mem) (hm : m.wf) (hc : cells = memV m)
    (h : ∀ w3, PicAt w3 w2.heap.size m → Below w2.heap.size w2 w3 → wpList Tryd.prog ops Q rest (a.put o.dst undef) w3) : wpList Tryd.prog ops Q (o :: rest) a (w2.alloc (.cells Tryd.zeroCells100 100)) := by
  subst hc
  have hs1 := memV_size hm
  have hsi : (Tryd.prog.info? 100).map (·.size) = some (memV m).size := by rw [hs1]; exact Tryd.size100
  have hs0 : Tryd.zeroCells100.size = 256 := by rw [zero63]; exact memV_size mem0_wf
  refine wpList_store_row hgd 100 x y ho w2.heap.size (memV m) hx hy 100 _ (heap_alloc_new w2 _) hsi (by rw [hs0, hs1]) (memV_one m) (h _ ⟨heap_setRow_at _ _ _ _ _ _ (heap_alloc_new w2 _), hm⟩ ?_)
  exact below_setRow2 ((Below.refl _ _).alloc (Nat.le_refl _) _) (Nat.le_refl _) _
theorem load_pic {ops : Array Oper} {rest : List Oper} {o : Oper} {a : Act} {Q : Exit → Act → World → Prop} (w : World) (hgd : o.guard = none) (x : Operand) (ho : o.op = .load 100 x) (g : Nat) (hx : a.eval x = .pointer (some ⟨g, 0, none⟩)) (m : Mem) (hp : PicAt w g m) (cells : Array Value) (hc : cells = memV m)
    (h : wpList Tryd.prog ops Q rest (a.put o.dst (.agg cells)) w) : wpList Tryd.prog ops Q (o :: rest) a w := by
  subst hc
  have hs1 := memV_size hp.wf
  exact wpList_load_row hgd 100 x ho g hx 100 _ (0, 0) _ hp.hb Tryd.underlying100 rfl (by rw [hs1]; exact Tryd.size100) h

set_option maxRecDepth 2000000 in
set_option maxHeartbeats 16000000 in
theorem refPack_any (w : World) (v e : Int) (a : Option Addr) (b o cap : Nat) (l : List Seg) (ha : l ≠ [] → a = some ⟨b, o, none⟩) (hl : SegsAt w b o l) (hok : ∀ s ∈ l, s.ok) (hb : l ≠ [] → b < w.heap.size) (hlen : l.length < 4611686018427387904) :
    Calls Tryd.prog 60 #[.int .i64 v, .int .i64 e, .slice a l.length cap] w fun en w' => en = .returned (.tuple #[.string (mk (packM v e l).1), .int .i64 (packM v e l).2]) ∧ Below w.heap.size w w' := by
  by_cases hv0 : v < 0
  · have hp : packM v e l = ([], 1) := by unfold packM; rw [if_pos (Or.inl hv0)]
    rw [hp]; clear hp
    go_enter Tryd.func60, Tryd.ntmps60
    go_wp2
    go_ret2
    exact ⟨rfl, Below.refl _ _⟩
  by_cases hv1 : 65535 < v
  · have hp : packM v e l = ([], 1) := by unfold packM; rw [if_pos (Or.inr hv1)]
    rw [hp]; clear hp
    go_enter Tryd.func60, Tryd.ntmps60
    go_wp2
    go_ret2
    exact ⟨rfl, Below.refl _ _⟩
  have hvv : ¬ (v < 0 ∨ 65535 < v) := by omega
  by_cases hl0 : l.length = 0
  · have haf : allFit l = false := by simp only [allFit]; rw [decide_eq_false (by omega)]; rfl
    have hp : packM v e l = ([], 2) := by unfold packM; rw [if_neg hvv, if_pos haf]
    rw [hp]; clear hp haf
    have hl0' : (l.length : Int) = 0 := by omega
    go_enter Tryd.func60, Tryd.ntmps60
    go_wp2
    go_ret2
    exact ⟨rfl, Below.refl _ _⟩
  by_cases hl8 : 8 < l.length
  · have haf : allFit l = false := by simp only [allFit]; rw [decide_eq_false (show ¬ l.length ≤ 8 by omega)]; simp
    have hp : packM v e l = ([], 2) := by unfold packM; rw [if_neg hvv, if_pos haf]
    rw [hp]; clear hp haf
    have hl0' : ((l.length : Int) == 0) = false := by simp only [beq_eq_false_iff_ne, ne_eq]; omega
    have hl8' : 8 < (l.length : Int) := by omega
    go_enter Tryd.func60, Tryd.ntmps60
    go_wp2
    go_ret2
    exact ⟨rfl, Below.refl _ _⟩
  have hne : l ≠ [] := by intro e; simp [e] at hl0
  obtain rfl := ha hne
  have hb' := hb hne
  clear ha hb
  have haf : allFit l = l.all Seg.fits := by simp only [allFit]; rw [decide_eq_true (show 1 ≤ l.length by omega), decide_eq_true (show l.length ≤ 8 by omega)]; simp
  have hl0' : ((l.length : Int) == 0) = false := by simp only [beq_eq_false_iff_ne, ne_eq]; omega
  have hl8' : ¬ 8 < (l.length : Int) := by omega
  have hlI : (l.length : Int) ≤ 8 := by omega
  have hP2 : Hid (l.all Seg.fits = false → packM v e l = ([], 2)) := fun hx => by unfold packM; rw [if_neg hvv, if_pos (by rw [haf]; exact hx)]
  have hP3 : Hid (l.all Seg.fits = true → (drawAll l).2 = false → packM v e l = ([], 3)) := fun hx hd => by
    unfold packM; rw [if_neg hvv, if_neg (by rw [haf, hx]; simp), lay_draw l (List.all_eq_true.1 hx), hd]; rfl
  have hP4 : Hid (l.all Seg.fits = true → (drawAll l).2 = true → packM v e l = (if ¬ (0 ≤ e ∧ e < 128 ∧ (drawAll l).1.c e.toNat = true) then ([], 4)
      else if 120 < (textOf v e (runsOf (drawAll l).1)).length then ([], 5)
      else (textOf v e (runsOf (drawAll l).1), 0))) := fun hx hd => by
    unfold packM; rw [if_neg hvv, if_neg (by rw [haf, hx]; simp), lay_draw l (List.all_eq_true.1 hx), hd, if_pos rfl]
  clear haf hl0
  go_enter Tryd.func60, Tryd.ntmps60
  go_wp2
  go_loopw [8, 9] (fun i _ wr => ∃ k : Nat, k ≤ l.length ∧ i = .int .i64 k ∧ Hid ((l.take k).all Seg.fits = true) ∧ Below w.heap.size w wr) (fun i _ _ => l.length - (intOf i).toNat)
  case atStart => exact ⟨0, by omega, rfl, rfl, Below.refl _ _⟩
  case round =>
    obtain ⟨k, hk, rfl, hfit, hbel⟩ := hrel
    by_cases hlt : k < l.length
    · obtain ⟨c1, c2, c3⟩ := hl k hlt
      have d1 : wr.cell? ⟨b, o + k * 3, none⟩ = some (.int .i64 l[k].addr) := (hbel.cell (p := ⟨b, o + k * 3, none⟩) hb').trans c1
      have d2 : wr.cell? ⟨b, o + k * 3 + 1, none⟩ = some (.int .i64 l[k].size) := (hbel.cell (p := ⟨b, o + k * 3 + 1, none⟩) hb').trans c2
      have d3 : wr.cell? ⟨b, o + k * 3 + 2, none⟩ = some (.string l[k].data) := (hbel.cell (p := ⟨b, o + k * 3 + 2, none⟩) hb').trans c3
      clear c1 c2 c3 hP3 hP4
      have hsok := hok l[k] (List.getElem_mem hlt)
      cases hfk : l[k].fits
      · have hall : Hid (packM v e l = ([], 2)) := by
          apply hP2.out
          rw [Bool.eq_false_iff, ne_eq, List.all_eq_true]
          intro h
          have := h l[k] (List.getElem_mem hlt)
          rw [hfk] at this; cases this
        clear hP2
        go_wp2_with (go_at_call 68; refine (proper_any wr l[k] hsok).mono ?_; rintro en w2 ⟨rfl, hb2⟩; rw [hfk])
        go_ret2
        exact ⟨by rw [hall.out]; rfl, hbel.trans (hb2.mono hbel.size)⟩
      · have hall : Hid ((l.take (k + 1)).all Seg.fits = true) := by
          unfold Hid
          rw [List.take_succ_eq_append_getElem hlt, List.all_append, hfit.out]; simp [hfk]
        clear hP2
        go_wp2_with (go_at_call 68; refine (proper_any wr l[k] hsok).mono ?_; rintro en w2 ⟨rfl, hb2⟩; rw [hfk])
        go_roundw
        case rel => exact ⟨k + 1, by omega, by go_num, hall, hbel.trans (hb2.mono hbel.size)⟩
        case measure => simp [intOf]; omega
    · have hall : l.all Seg.fits = true := by
        have := hfit.out
        rwa [List.take_of_length_le (by omega)] at this
      have hQ3 : Hid ((drawAll l).2 = false → packM v e l = ([], 3)) := hP3.out hall
      have hQ4 := hP4.out hall
      have HQ4 : Hid ((drawAll l).2 = true → packM v e l = (if ¬ (0 ≤ e ∧ e < 128 ∧ (drawAll l).1.c e.toNat = true) then ([], 4)
        else if 120 < (textOf v e (runsOf (drawAll l).1)).length then ([], 5)
        else (textOf v e (runsOf (drawAll l).1), 0))) := hQ4
      have hDR := drawn_any wr (some ⟨b, o, none⟩) b o cap l (fun _ => rfl) (fun i hi => by
        obtain ⟨c1, c2, c3⟩ := hl i hi
        exact ⟨(hbel.cell (p := ⟨b, o + i * 3, none⟩) hb').trans c1, (hbel.cell (p := ⟨b, o + i * 3 + 1, none⟩) hb').trans c2, (hbel.cell (p := ⟨b, o + i * 3 + 2, none⟩) hb').trans c3⟩) (List.all_eq_true.1 hall) (fun _ => Nat.lt_of_lt_of_le hb' hbel.size) (by omega)
      have hmw := drawAll_wf l
      clear hP2 hP3 hP4 hQ4 hall hfit hl hok
      generalize drawAll l = p at *
      obtain ⟨m, c⟩ := p
      dsimp only at hDR hmw
      obtain ⟨cells, hcl⟩ : ∃ cells, cells = memV m := ⟨_, rfl⟩
      have HCL : Hid (cells = memV m) := hcl
      rw [← hcl] at hDR
      clear hcl
      cases c
      · have hp := hQ3.out rfl
        have HP : Hid (packM v e l = ([], 3)) := hp
        clear hp hQ3 HQ4
        go_wp2_with (first
        | (go_at_call 56; refine hDR.mono ?_; rintro en w2 ⟨rfl, hb2⟩; have hbW := hbel.trans (hb2.mono hbel.size))
        | (with_reducible show wpList _ _ _ ({ dst := _, op := Op.store _ _ _, type := _, pos := _, after := _, guard := _ } :: _) _ (World.alloc w2 _); refine store_pic w2 rfl _ _ rfl cells rfl rfl m hmw HCL.out ?_; intro w3 hpic hb3'; have hb3 := hbW.trans (hb3'.mono hbW.size)))
        go_ret2
        exact ⟨by rw [HP.out]; rfl, hb3⟩
      · have hQ5 := HQ4.out rfl
        dsimp only at hQ5
        clear hQ3 HQ4
        by_cases he0 : e < 0
        · rw [if_pos (by omega)] at hQ5
          have HP : Hid (packM v e l = ([], 4)) := hQ5
          clear hQ5
          go_wp2_with (first
        | (go_at_call 56; refine hDR.mono ?_; rintro en w2 ⟨rfl, hb2⟩; have hbW := hbel.trans (hb2.mono hbel.size))
        | (with_reducible show wpList _ _ _ ({ dst := _, op := Op.store _ _ _, type := _, pos := _, after := _, guard := _ } :: _) _ (World.alloc w2 _); refine store_pic w2 rfl _ _ rfl cells rfl rfl m hmw HCL.out ?_; intro w3 hpic hb3'; have hb3 := hbW.trans (hb3'.mono hbW.size)))
          go_ret2
          exact ⟨by rw [HP.out]; rfl, hb3⟩
        by_cases he1 : 128 ≤ e
        · rw [if_pos (by omega)] at hQ5
          have HP : Hid (packM v e l = ([], 4)) := hQ5
          clear hQ5
          go_wp2_with (first
        | (go_at_call 56; refine hDR.mono ?_; rintro en w2 ⟨rfl, hb2⟩; have hbW := hbel.trans (hb2.mono hbel.size))
        | (with_reducible show wpList _ _ _ ({ dst := _, op := Op.store _ _ _, type := _, pos := _, after := _, guard := _ } :: _) _ (World.alloc w2 _); refine store_pic w2 rfl _ _ rfl cells rfl rfl m hmw HCL.out ?_; intro w3 hpic hb3'; have hb3 := hbW.trans (hb3'.mono hbW.size)))
          go_ret2
          exact ⟨by rw [HP.out]; rfl, hb3⟩
        obtain ⟨e, rfl⟩ : ∃ k : Nat, e = k := ⟨e.toNat, by omega⟩
        have he2 : (e : Int) < 128 := by omega
        cases hce : m.c e
        · rw [if_pos (by rw [Int.toNat_natCast, hce]; simp)] at hQ5
          have HP : Hid (packM v e l = ([], 4)) := hQ5
          have HCE : Hid (m.c e = false) := hce
          clear hQ5 hce
          go_wp2_with (first
        | (go_at_call 56; refine hDR.mono ?_; rintro en w2 ⟨rfl, hb2⟩; have hbW := hbel.trans (hb2.mono hbel.size))
        | (with_reducible show wpList _ _ _ ({ dst := _, op := Op.store _ _ _, type := _, pos := _, after := _, guard := _ } :: _) _ (World.alloc w2 _); refine store_pic w2 rfl _ _ rfl cells rfl rfl m hmw HCL.out ?_; intro w3 hpic hb3'; have hb3 := hbW.trans (hb3'.mono hbW.size); have hcv := hpic.cov e (by omega); rw [HCE.out] at hcv))
          go_ret2
          exact ⟨by rw [HP.out]; rfl, hb3⟩
        · rw [if_neg (by rw [Int.toNat_natCast, hce]; simp [he2])] at hQ5
          have HCE : Hid (m.c e = true) := hce
          have HQ5 : Hid (packM v e l = if 120 < (textOf v e (runsOf m)).length then ([], 5) else (textOf v e (runsOf m), 0)) := hQ5
          clear hQ5 hce
          have hRR := fun w3 => refRuns_any w3 m hmw
          rw [← HCL.out] at hRR
          have hro := runsOf_ok hmw
          have hrl' : (runsOf m).length ≤ 128 := runsTo_length m 128
          obtain ⟨rs, hrs⟩ : ∃ rs, rs = runsOf m := ⟨_, rfl⟩
          rw [← hrs] at HQ5 hRR hro hrl'
          clear hrs
          have hT2 := fun w4 => two_any w4 v (by omega) (by omega)
          have hO1 := fun w4 => one_bel w4 (e : Int)
          have hO2 := fun w4 => one_bel w4 (rs.length : Int)
          go_wp2_with (first
        | (go_at_call 56; refine hDR.mono ?_; rintro en w2 ⟨rfl, hb2⟩; have hbW := hbel.trans (hb2.mono hbel.size))
        | (with_reducible show wpList _ _ _ ({ dst := _, op := Op.store _ _ _, type := _, pos := _, after := _, guard := _ } :: _) _ (World.alloc w2 _); refine store_pic w2 rfl _ _ rfl cells rfl rfl m hmw HCL.out ?_; intro w3 hpic hb3'; have hb3 := hbW.trans (hb3'.mono hbW.size); have hcv := hpic.cov e (by omega); rw [HCE.out] at hcv)
            | (with_reducible show wpList _ _ _ ({ dst := _, op := Op.load 100 _, type := _, pos := _, after := _, guard := _ } :: _) _ w3; refine load_pic w3 rfl _ rfl w2.heap.size rfl m hpic cells HCL.out ?_)
            | (go_at_call 69; refine (hRR _).mono ?_; rintro en w4 ⟨v4, rfl, hown, hb4⟩; obtain ⟨_, a1, b1, cap1, rfl, r1, r2, r3, _, _⟩ := SegsAt_of_own hown))
          have hmsz := mk_size
          obtain ⟨hd, hhd⟩ : ∃ hd, hd = [84, 66, byteOf (v / 256), byteOf (v % 256), byteOf (e : Int), byteOf rs.length] := ⟨_, rfl⟩
          have hdl : hd.length = 6 := by rw [hhd]; rfl
          have HB : Hid (bodyOf v e rs = hd ++ rs.flatMap runBytes) := by unfold Hid; rw [hhd]; rfl
          have HH : Hid ((⟨#[84, 66]⟩ : ByteArray) ++ mk [byteOf (v / 256), byteOf (v % 256)] ++ mk [byteOf (e : Int)] ++ mk [byteOf (rs.length : Int)] = mk hd) := by
            unfold Hid; rw [show (⟨#[84, 66]⟩ : ByteArray) = mk [84, 66] from rfl, mk_append, mk_append, mk_append, hhd]; rfl
          have HT : Hid (textOf v e rs = bodyOf v e rs ++ [byteOf (checkOf (bodyOf v e rs) / 256 : Nat), byteOf (checkOf (bodyOf v e rs) % 256 : Nat)]) := rfl
          clear hhd
          have hb4' := hb3.trans (hb4.mono hb3.size)
          go_wp2_with (first
            | (go_at_call 70; refine (hT2 _).mono ?_; rintro en w5 ⟨rfl, hb5⟩; clear hT2)
            | (go_at_call 71; refine (hO1 _).mono ?_; rintro en w6 ⟨rfl, hb6⟩; clear hO1)
            | (go_at_call 71; refine (hO2 _).mono ?_; rintro en w7 ⟨rfl, hb7⟩))
          have hb7' : Below w4.heap.size w4 w7 := (hb5.trans (hb6.mono hb5.size)).trans (hb7.mono (Nat.le_trans hb5.size hb6.size))
          have hbT : Below w.heap.size w w7 := hb4'.trans (hb7'.mono hb4'.size)
          have r2' : SegsAt w7 b1 0 rs := by
            intro i hi
            have hne : rs ≠ [] := by intro e; simp [e] at hi
            obtain ⟨c1, c2, c3⟩ := r2 i hi
            exact ⟨(hb7'.cell (p := ⟨b1, 0 + i * 3, none⟩) (r3 hne).1).trans c1, (hb7'.cell (p := ⟨b1, 0 + i * 3 + 1, none⟩) (r3 hne).1).trans c2, (hb7'.cell (p := ⟨b1, 0 + i * 3 + 2, none⟩) (r3 hne).1).trans c3⟩
          have r3' : rs ≠ [] → b1 < w7.heap.size := fun h => Nat.lt_of_lt_of_le (r3 h).1 hb7'.size
          clear hb5 hb6 hb7 hb7' hb4' hb4 hb3 hb3' hbW hb2 hbel r2 r3 hown hpic hcv hRR hDR hO2 hb'
          rw [HH.out]
          go_loopw [13, 14] (fun t i wr => ∃ k : Nat, k ≤ rs.length ∧ i = .int .i64 k ∧ (∃ q : ByteArray, t = .string q ∧ q.size ≤ 20000 ∧ Hid (q = mk (hd ++ (rs.take k).flatMap runBytes))) ∧ Below w7.heap.size w7 wr) (fun _ i _ => rs.length - (intOf i).toNat)
          case atStart => exact ⟨0, by omega, rfl, ⟨_, rfl, by rw [mk_size, hdl]; omega, by simp [Hid]⟩, Below.refl _ _⟩
          case round =>
            obtain ⟨k, hk, rfl, ⟨q, rfl, hq, hqe⟩, hbl⟩ := hrel
            have hlenI : (rs.length : Int) ≤ 128 := by omega
            by_cases hlt : k < rs.length
            · have hne : rs ≠ [] := by intro e; simp [e] at hlt
              obtain rfl := r1 hne
              have hb1 := r3' hne
              obtain ⟨c1, c2, c3⟩ := r2' k hlt
              have d1 : wr.cell? ⟨b1, k * 3, none⟩ = some (.int .i64 rs[k].addr) := by have := (hbl.cell (p := ⟨b1, 0 + k * 3, none⟩) hb1).trans c1; rwa [Nat.zero_add] at this
              have d2 : wr.cell? ⟨b1, k * 3 + 1, none⟩ = some (.int .i64 rs[k].size) := by have := (hbl.cell (p := ⟨b1, 0 + k * 3 + 1, none⟩) hb1).trans c2; rwa [Nat.zero_add] at this
              have d3 : wr.cell? ⟨b1, k * 3 + 2, none⟩ = some (.string rs[k].data) := by have := (hbl.cell (p := ⟨b1, 0 + k * 3 + 2, none⟩) hb1).trans c3; rwa [Nat.zero_add] at this
              clear c1 c2 c3
              have hsok := hro rs[k] (List.getElem_mem hlt)
              have hq2 : Hid (q ++ mk [byteOf rs[k].addr] ++ mk [byteOf rs[k].size] ++ mk [byteOf (rs[k].data.size : Int)] ++ rs[k].data = mk (hd ++ (rs.take (k + 1)).flatMap runBytes)) := by
                unfold Hid
                rw [hqe.out, mk_append, mk_append, mk_append]
                conv => lhs; rw [← mk_list rs[k].data]
                rw [mk_append, List.take_succ_eq_append_getElem hlt, List.flatMap_append]
                congr 1
                simp [runBytes, List.append_assoc, mk_list]
              have hq3 : Hid ((mk (hd ++ (rs.take (k + 1)).flatMap runBytes)).size ≤ 20000) := by
                unfold Hid
                rw [mk_size, List.length_append, hdl]
                have := flat_len (rs.take (k + 1)) 128 (fun s hs => (hro s (List.mem_of_mem_take hs)).2)
                have hlt2 : (rs.take (k + 1)).length ≤ 128 := by simp; omega
                have : (rs.take (k + 1)).length * 131 ≤ 128 * 131 := Nat.mul_le_mul_right _ hlt2
                omega
              generalize rs[k] = sg at *
              obtain ⟨x, z, d⟩ := sg
              have hd128 : d.size ≤ 128 := hsok.2
              dsimp only at d1 d2 d3 hq2
              have hb1' : b1 < wr.heap.size := Nat.lt_of_lt_of_le hb1 hbl.size
              clear hsok hro r2' r3' r1
              have O1 := fun wx => one_any wx x
              have O2 := fun wx => one_any wx z
              have O3 := fun wx => one_any wx (d.size : Int)
              obtain ⟨o1, ho1⟩ : ∃ o1, o1 = mk [byteOf x] := ⟨_, rfl⟩
              obtain ⟨o2, ho2⟩ : ∃ o2, o2 = mk [byteOf z] := ⟨_, rfl⟩
              obtain ⟨o3, ho3⟩ : ∃ o3, o3 = mk [byteOf (d.size : Int)] := ⟨_, rfl⟩
              have z1 : o1.size = 1 := by rw [ho1, mk_size]; rfl
              have z2 : o2.size = 1 := by rw [ho2, mk_size]; rfl
              have z3 : o3.size = 1 := by rw [ho3, mk_size]; rfl
              rw [← ho1] at O1 hq2
              rw [← ho2] at O2 hq2
              rw [← ho3] at O3 hq2
              have A1 := fun wx => run_string_add_sum (P := Tryd.prog) wx q o1 (by omega)
              have A2 := fun wx => run_string_add_sum (P := Tryd.prog) wx (q ++ o1) o2 (by rw [ByteArray.size_append]; omega)
              have A3 := fun wx => run_string_add_sum (P := Tryd.prog) wx (q ++ o1 ++ o2) o3 (by rw [ByteArray.size_append, ByteArray.size_append]; omega)
              have A4 := fun wx => run_string_add_sum (P := Tryd.prog) wx (q ++ o1 ++ o2 ++ o3) d (by rw [ByteArray.size_append, ByteArray.size_append, ByteArray.size_append]; omega)
              clear ho1 ho2 ho3 z1 z2 z3 hmsz
              go_wp2
              go_region_held3 (fun w' => w'.cell? ⟨b1, k * 3, none⟩ = some (.int .i64 x) ∧ w'.cell? ⟨b1, k * 3 + 1, none⟩ = some (.int .i64 z) ∧ w'.cell? ⟨b1, k * 3 + 2, none⟩ = some (.string d)) ((first | exact ck0 d1 d2 d3 | exact ck1 d1 d2 d3 _ | exact ck2 d1 d2 d3 _ _ | exact ck3 d1 d2 d3 _ _ _))
                (first
                  | (go_at_call 71; refine (O1 _).mono ?_; rintro en w' ⟨rfl, rfl⟩)
                  | (go_at_call 71; refine (O2 _).mono ?_; rintro en w' ⟨rfl, rfl⟩)
                  | (go_at_call 71; refine (O3 _).mono ?_; rintro en w' ⟨rfl, rfl⟩))
              all_goals go_wp2
              go_roundw
              case rel =>
                refine ⟨k + 1, by omega, by go_num, ⟨_, rfl, ?_, hq2⟩, ?_⟩
                · rw [hq2.out]; exact hq3.out
                · exact (((hbl.alloc hbl.size _).alloc (by have := hbl.size; simp; omega) _).alloc (by have := hbl.size; simp; omega) _).drew
              case measure => simp [intOf]; omega
            · have hqb : Hid (q = mk (bodyOf v e rs)) := by
                unfold Hid; rw [hqe.out, List.take_of_length_le (by omega), HB.out]
              have hql : Hid (q.data.toList = bodyOf v e rs) := by unfold Hid; rw [hqb.out, mk_data]
              have hqn : Hid (q.size = (bodyOf v e rs).length) := by unfold Hid; rw [hqb.out, mk_size]
              obtain ⟨x, hx⟩ : ∃ x, x = checkOf (bodyOf v e rs) := ⟨_, rfl⟩
              have HX : Hid (x = checkOf (bodyOf v e rs)) := hx
              have hxl : (x : Int) < 65521 := by have := checkOf_lt (bodyOf v e rs); omega
              have HF : Hid (q ++ mk [byteOf ((x : Int) / 256), byteOf ((x : Int) % 256)] = mk (textOf v e rs)) := by
                unfold Hid
                rw [hqb.out, mk_append, HT.out, ← hx]
                congr 3
              have hTW := fun wx => two_any wx (x : Int) (by omega) (by omega)
              have HFS : Hid (q.size + 2 = (textOf v e rs).length) := by
                unfold Hid
                have := congrArg ByteArray.size HF.out
                rw [ByteArray.size_append, mk_size, mk_size] at this
                exact this
              obtain ⟨tl, htl⟩ : ∃ tl, tl = mk [byteOf ((x : Int) / 256), byteOf ((x : Int) % 256)] := ⟨_, rfl⟩
              have htz : tl.size = 2 := by rw [htl, mk_size]; rfl
              rw [← htl] at hTW HF
              obtain ⟨tt, htt⟩ : ∃ tt, tt = q ++ tl := ⟨_, rfl⟩
              have AT := fun wx => run_string_add_sum (P := Tryd.prog) wx q tl (by omega)
              have hts : Hid (tt.size = q.size + 2) := by unfold Hid; rw [htt, ByteArray.size_append, htz]
              rw [← htt] at AT HF
              clear hx htl htt hmsz r1 r2' r3' hro
              go_wp2
              go_loop [15, 16] (fun h i => ∃ k : Nat, k ≤ q.size ∧ i = .int .i64 k ∧ ∃ y : Nat, y < 65521 ∧ h = .int .i64 y ∧ Hid (y = checkOf ((bodyOf v e rs).take k))) (fun _ i => q.size - (intOf i).toNat)
              case atStart => exact ⟨0, by omega, rfl, 1, by omega, rfl, rfl⟩
              case round =>
                obtain ⟨n, hn, rfl, y, hy, rfl, hc⟩ := hrel
                by_cases hnlt : n < q.size
                · have hnlt' : (n : Int) < q.size := by omega
                  have hbb : (q[n].toNat : Int) < 256 := by have := q[n].toNat_lt; omega
                  have hlk : n < (bodyOf v e rs).length := by rw [← hqn.out]; exact hnlt
                  have HN : Hid ((31 * y + q[n].toNat) % 65521 = checkOf ((bodyOf v e rs).take (n + 1))) := by
                    unfold Hid
                    rw [List.take_succ_eq_append_getElem hlk]
                    have e1 : q[n] = (bodyOf v e rs)[n] := by
                      have h1 := ba_getD q n hnlt
                      rw [hql.out, getD_get _ n hlk] at h1
                      exact h1.symm
                    rw [checkOf, List.foldl_append, e1]
                    have := hc.out
                    unfold checkOf at this
                    rw [← this]; rfl
                  go_wp2
                  go_round
                  case rel => exact ⟨n + 1, by omega, by go_num, _, Nat.mod_lt _ (by decide), by go_num, HN⟩
                  case measure => simp [intOf]; omega
                · have hks : y = x := by
                    have := hc.out
                    rw [List.take_of_length_le (by rw [← hqn.out]; omega), ← HX.out] at this
                    exact this
                  subst hks
                  by_cases hbig : 120 < (textOf v e rs).length
                  · have hbig' : 120 < (tt.size : Int) := by have := HFS.out; have := hts.out; omega
                    have HP : Hid (packM v e l = ([], 5)) := by unfold Hid; rw [HQ5.out, if_pos hbig]
                    clear HX hc HQ5 hbig
                    go_wp2_with (go_at_call 70; refine (hTW _).mono ?_; rintro en w8 ⟨rfl, hb8⟩)
                    go_ret2
                    exact ⟨by rw [HP.out]; rfl, (hbT.trans (hbl.mono hbT.size)).trans (hb8.mono (Nat.le_trans hbT.size hbl.size))⟩
                  · have hbig' : (tt.size : Int) ≤ 120 := by have := HFS.out; have := hts.out; omega
                    have HP : Hid (packM v e l = (textOf v e rs, 0)) := by unfold Hid; rw [HQ5.out, if_neg hbig]
                    clear HX hc HQ5 hbig
                    go_wp2_with (go_at_call 70; refine (hTW _).mono ?_; rintro en w8 ⟨rfl, hb8⟩)
                    go_ret2
                    refine ⟨?_, (hbT.trans (hbl.mono hbT.size)).trans (hb8.mono (Nat.le_trans hbT.size hbl.size))⟩
                    rw [HP.out, ← HF.out]; rfl
end Go.Proofs.YtpfdfpeomofabaaDoor

namespace Go.Proofs.YtpfdfpeomofabaaDoor
open Go.RowKit

theorem SegsAt.kept {w w' : World} {b o : Nat} {l : List Seg} (h : SegsAt w b o l) (hb : l ≠ [] → b < w.heap.size) (hbl : Below w.heap.size w w') : SegsAt w' b o l := by
  intro i hi
  have hne : l ≠ [] := by intro e; simp [e] at hi
  obtain ⟨c1, c2, c3⟩ := h i hi
  exact ⟨(hbl.cell (p := ⟨b, o + i * 3, none⟩) (hb hne)).trans c1, (hbl.cell (p := ⟨b, o + i * 3 + 1, none⟩) (hb hne)).trans c2, (hbl.cell (p := ⟨b, o + i * 3 + 2, none⟩) (hb hne)).trans c3⟩

end Go.Proofs.YtpfdfpeomofabaaDoor
