import Derived.Test.YtcokahccbjdeaaaImgH
namespace Go.Proofs.Ytcokahccbjdeaaa
open Go.RowKit

structure PicAt (w : World) (b : Nat) (m : Mem) : Prop where
  hb : w.heap[b]? = some (.cells (memV m) 63 (0, 0))
  wf : m.wf

theorem PicAt.cov {w : World} {b : Nat} {m : Mem} (h : PicAt w b m) (a : Nat) (ha : a < 128) : w.cell? ⟨b, a, none⟩ = some (.bool (m.c a)) := by
  rw [cell_of_heap h.hb]; exact memV_cov h.wf a ha
theorem PicAt.byt {w : World} {b : Nat} {m : Mem} (h : PicAt w b m) (a : Nat) (ha : a < 128) : w.cell? ⟨b, 128 + a, none⟩ = some (.int .u8 ((m.b a).toNat : Int)) := by
  rw [cell_of_heap h.hb]; exact memV_byt h.wf a ha
theorem PicAt.free {w : World} {b : Nat} {m : Mem} (h : PicAt w b m) (o : Nat) : w.frozen? ⟨b, o, none⟩ = false := free_of_heap h.hb
theorem PicAt.setCov {w : World} {b : Nat} {m : Mem} (h : PicAt w b m) (a : Nat) (ha : a < 128) (x : Bool) : PicAt (w.setCell ⟨b, a, none⟩ (.bool x)) b ⟨m.cov.set a x, m.byt⟩ :=
  ⟨by rw [heap_setCell_at _ _ _ _ _ _ _ h.hb, memV_setCov h.wf a ha], by obtain ⟨h1, h2⟩ := h.wf; exact ⟨by simp [h1], h2⟩⟩
theorem PicAt.setByt {w : World} {b : Nat} {m : Mem} (h : PicAt w b m) (a : Nat) (x : UInt8) : PicAt (w.setCell ⟨b, 128 + a, none⟩ (.int .u8 (x.toNat : Int))) b ⟨m.cov, m.byt.set a x⟩ :=
  ⟨by rw [heap_setCell_at _ _ _ _ _ _ _ h.hb, memV_setByt h.wf a], by obtain ⟨h1, h2⟩ := h.wf; exact ⟨h1, by simp [h2]⟩⟩
theorem PicAt.lt {w : World} {b : Nat} {m : Mem} (h : PicAt w b m) : b < w.heap.size := (Array.getElem?_eq_some_iff.1 h.hb).1
theorem PicAt.kept {w w' : World} {b : Nat} {m : Mem} (h : PicAt w b m) (hb : Below w.heap.size w w') : PicAt w' b m := ⟨by rw [hb.block b h.lt]; exact h.hb, h.wf⟩

theorem PicAt.drew {w : World} {b : Nat} {m : Mem} (h : PicAt w b m) : PicAt w.drew b m := ⟨h.hb, h.wf⟩
theorem PicAt.keptO {w w' : World} {b : Nat} {m : Mem} {S : Nat → Prop} (h : PicAt w b m) (ho : Only S w w') (hs : ¬ S b) : PicAt w' b m := ⟨by rw [ho.block b h.lt hs]; exact h.hb, h.wf⟩

theorem zero63 : Try.zeroCells63 = memV mem0 := by kernel_rfl
theorem memV_size {m : Mem} (h : m.wf) : (memV m).size = 256 := by
  obtain ⟨h1, h2⟩ := h
  simp [memV, h1, h2]
theorem memV_one (m : Mem) : (memV m).all (·.oneCell') = true := by
  rw [Array.all_eq_true_iff_forall_mem]
  intro x hx
  simp only [memV, List.mem_toArray, List.mem_append, List.mem_map] at hx
  rcases hx with ⟨y, _, rfl⟩ | ⟨y, _, rfl⟩ <;> rfl
theorem Try.size63 : (Try.prog.info? 63).map (·.size) = some 256 := by kernel_rfl

/-- all segments laid, whether or not they clash; and: does none? -/
def drawStep (p : Mem × Bool) (s : Seg) : Mem × Bool := (p.1.putS s, p.2 && p.1.freeS s)
def drawAll (l : List Seg) : Mem × Bool := l.foldl drawStep (mem0, true)
theorem drawAll_snoc (l : List Seg) (k : Nat) (h : k < l.length) : drawAll (l.take (k + 1)) = drawStep (drawAll (l.take k)) l[k] := by
  unfold drawAll
  rw [List.take_succ_eq_append_getElem h, List.foldl_append]; rfl
theorem drawStep_wf {p : Mem × Bool} (h : p.1.wf) (s : Seg) : (drawStep p s).1.wf := Mem.putN_wf h _ _ _
theorem drawAll_wf (l : List Seg) : (drawAll l).1.wf := by
  unfold drawAll
  suffices ∀ p : Mem × Bool, p.1.wf → (l.foldl drawStep p).1.wf from this _ mem0_wf
  induction l with
  | nil => intro p h; exact h
  | cons s r ih => intro p h; exact ih _ (drawStep_wf h s)

set_option maxRecDepth 100000 in
set_option maxHeartbeats 1000000 in
theorem proper_any (w : World) (s : Seg) (h : s.ok) :
    Calls Try.prog 45 #[s.v] w fun e w' => e = .returned (.bool s.fits) ∧ Below w.heap.size w w' := by
  obtain ⟨a, z, d⟩ := s
  obtain ⟨a0, a1, s0, s1, d1⟩ := h
  simp only [Seg.v] at *
  by_cases h1 : a < 0
  · have hf : Seg.fits ⟨a, z, d⟩ = false := by simp [Seg.fits]; omega
    rw [hf]; clear hf
    go_enter Try.func45, Try.ntmps45
    go_wp2
    go_ret
    exact ⟨rfl, (Below.refl _ _).alloc (Nat.le_refl _) _⟩
  by_cases h2 : 128 < a
  · have hf : Seg.fits ⟨a, z, d⟩ = false := by simp [Seg.fits]; omega
    rw [hf]; clear hf
    go_enter Try.func45, Try.ntmps45
    go_wp2
    go_ret
    exact ⟨rfl, (Below.refl _ _).alloc (Nat.le_refl _) _⟩
  by_cases h3 : z < 1
  · have hf : Seg.fits ⟨a, z, d⟩ = false := by simp [Seg.fits]; omega
    rw [hf]; clear hf
    go_enter Try.func45, Try.ntmps45
    go_wp2
    go_ret
    exact ⟨rfl, (Below.refl _ _).alloc (Nat.le_refl _) _⟩
  by_cases h4 : 128 < z
  · have hf : Seg.fits ⟨a, z, d⟩ = false := by simp [Seg.fits]; omega
    rw [hf]; clear hf
    go_enter Try.func45, Try.ntmps45
    go_wp2
    go_ret
    exact ⟨rfl, (Below.refl _ _).alloc (Nat.le_refl _) _⟩
  by_cases h5 : a + z ≤ 128
  · have hf : Seg.fits ⟨a, z, d⟩ = decide ((d.size : Int) ≤ z) := by simp only [Seg.fits]; simp [show 0 ≤ a by omega, show 1 ≤ z by omega, show a ≤ 128 - z by omega]
    rw [hf]; clear hf
    go_enter Try.func45, Try.ntmps45
    go_wp2
    go_ret
    exact ⟨rfl, (Below.refl _ _).alloc (Nat.le_refl _) _⟩
  · have hf : Seg.fits ⟨a, z, d⟩ = false := by simp [Seg.fits]; omega
    rw [hf]; clear hf
    go_enter Try.func45, Try.ntmps45
    go_wp2
    go_ret
    exact ⟨rfl, (Below.refl _ _).alloc (Nat.le_refl _) _⟩

theorem results_cell_tmp {P : Program} {fn : Func} {p t : Tmp} {ty : TypeId} (h : fn.results = #[.cell p ty, .tmp t]) (tmps : Array Value) (w : World) (g : Nat) (tt : TypeId) (cs : Array Value) (fr : Nat × Nat) (d : TypeDesc)
    (hp : tmps.getD p undef = .pointer (some ⟨g, 0, none⟩)) (hg : w.heap[g]? = some (.cells cs tt fr))
    (hu : P.underlying ty = some d) (hd : (match d with | .struct _ | .array _ _ => true | _ => false) = true) (hi : (P.info? ty).map (·.size) = some cs.size) :
    (results fn tmps).run P w = .ok (.tuple #[.agg cs, tmps.getD t undef]) w := by
  have hp' : tmps[p]?.getD undef = .pointer (some ⟨g, 0, none⟩) := by simpa using hp
  simp [results, h, hp', asAddr, run_loadVar_row w g tt ty cs fr d hg hu hd hi]
theorem heap_setRow_at (w : World) (g : Nat) (old cs : Array Value) (t : TypeId) (fr : Nat × Nat) (h : w.heap[g]? = some (.cells old t fr)) : (w.setRow g cs).heap[g]? = some (.cells cs t fr) := by
  simp [World.setRow, Array.getElem?_modify, h]
theorem below_setRow2 {B : Nat} {a w : World} (h : Below B a w) {g : Nat} (hp : B ≤ g) (cs : Array Value) : Below B a (w.setRow g cs) :=
  h.trans ⟨rfl, rfl, rfl, by simp, fun k hk => by simp only [World.setRow, Array.getElem?_modify]; rw [if_neg (by omega)]⟩

set_option maxRecDepth 100000 in
set_option maxHeartbeats 4000000 in
theorem drawn_any (w : World) (a : Option Addr) (b o cap : Nat) (l : List Seg) (ha : l ≠ [] → a = some ⟨b, o, none⟩) (hl : SegsAt w b o l) (hfit : ∀ s ∈ l, s.fits = true) (hb : l ≠ [] → b < w.heap.size) (hlen : l.length < 4611686018427387904) :
    Calls Try.prog 46 #[.slice a l.length cap] w fun e w' => e = .returned (.tuple #[.agg (memV (drawAll l).1), .bool (drawAll l).2]) ∧ Below w.heap.size w w' := by
  go_enter Try.func46, Try.ntmps46
  go_wp2
  go_loopw [5, 6, 7, 8] (fun c i _ _ wr => ∃ k : Nat, k ≤ l.length ∧ i = .int .i64 k ∧ (∃ p : Mem × Bool, Hid (p = drawAll (l.take k)) ∧ c = .bool p.2 ∧ PicAt wr (w.heap.size + 1) p.1) ∧ wr.heap[w.heap.size]? = some (.cells Try.zeroCells63 63 (0, 0)) ∧ Below w.heap.size w wr) (fun _ i _ _ _ => l.length - (intOf i).toNat)
  case atStart =>
    refine ⟨0, by omega, rfl, ⟨(mem0, true), rfl, rfl, ⟨?_, mem0_wf⟩⟩, by rw [heap_alloc2_old], ((Below.refl _ _).alloc (Nat.le_refl _) _).alloc (by simp) _⟩
    rw [heap_alloc2_new, zero63]
  case round =>
    obtain ⟨k, hk, rfl, ⟨p, hp, rfl, hpic⟩, hz, hbel⟩ := hrel
    obtain ⟨wo, rfl⟩ : ∃ wo : World, wo = wr := ⟨_, rfl⟩
    by_cases hlt : k < l.length
    · have hne : l ≠ [] := by intro e; simp [e] at hlt
      obtain rfl := ha hne
      have hb' := hb hne
      obtain ⟨c1, c2, c3⟩ := hl k hlt
      have d1 : wo.cell? ⟨b, o + k * 3, none⟩ = some (.int .i64 l[k].addr) := (hbel.cell (p := ⟨b, o + k * 3, none⟩) hb').trans c1
      have d2 : wo.cell? ⟨b, o + k * 3 + 1, none⟩ = some (.int .i64 l[k].size) := (hbel.cell (p := ⟨b, o + k * 3 + 1, none⟩) hb').trans c2
      have d3 : wo.cell? ⟨b, o + k * 3 + 2, none⟩ = some (.string l[k].data) := (hbel.cell (p := ⟨b, o + k * 3 + 2, none⟩) hb').trans c3
      clear c1 c2 c3
      have hf := hfit l[k] (List.getElem_mem hlt)
      have hp1 : Hid (drawAll (l.take (k + 1)) = drawStep p l[k]) := by unfold Hid; rw [drawAll_snoc l k hlt, ← hp.out]
      obtain ⟨sg, hsg⟩ : ∃ sg, sg = l[k] := ⟨_, rfl⟩
      rw [← hsg] at d1 d2 d3 hf hp1
      clear hsg
      obtain ⟨x, z, d⟩ := sg
      obtain ⟨f1, f2, f3, f4⟩ := (Seg.fits_iff _).1 hf
      dsimp only at f1 f2 f3 f4 d1 d2 d3
      obtain ⟨x, rfl⟩ : ∃ k : Nat, x = k := ⟨x.toNat, by omega⟩
      obtain ⟨z, rfl⟩ : ∃ k : Nat, z = k := ⟨z.toNat, by omega⟩
      have hp2 : Hid (drawStep p ⟨x, z, d⟩ = (p.1.putN x d z, p.2 && p.1.freeN x d z)) := rfl
      have hxz : x + z ≤ 128 := by omega
      have hdz : d.size ≤ z := by omega
      clear f1 f3 f4 hf
      go_wp2
      have hpic1 : PicAt (wo.alloc (.cells #[.int .i64 x, .int .i64 z, .string d] 43)) (w.heap.size + 1) (p.1.putN x d 0) := hpic.kept ((Below.refl _ _).alloc (Nat.le_refl _) _)
      have hz1 : (wo.alloc (.cells #[.int .i64 x, .int .i64 z, .string d] 43)).heap[w.heap.size]? = some (.cells Try.zeroCells63 63 (0, 0)) := by
        rw [Below.heap_alloc _ _ _ (Array.getElem?_eq_some_iff.1 hz).1]; exact hz
      have hbel1 : Below w.heap.size w (wo.alloc (.cells #[.int .i64 x, .int .i64 z, .string d] 43)) := hbel.alloc hbel.size _
      have hsb : (wo.alloc (.cells #[.int .i64 x, .int .i64 z, .string d] 43)).heap[wo.heap.size]? = some (.cells #[.int .i64 x, .int .i64 z, .string d] 43 (0, 0)) := heap_alloc_new _ _
      have hlt2 := hpic.lt
      generalize wo.alloc (.cells #[.int .i64 x, .int .i64 z, .string d] 43) = w1 at *
      generalize wo.heap.size = sb at *
      clear hpic hz hbel d1 d2 d3
      go_loopw [5, 8] (fun c i wr => ∃ j : Nat, j ≤ z ∧ i = .int .i64 j ∧ c = .bool (p.2 && p.1.freeN x d j) ∧ PicAt wr (w.heap.size + 1) (p.1.putN x d j) ∧ Only (· = w.heap.size + 1) w1 wr) (fun _ i _ => z - (intOf i).toNat)
      case atStart => exact ⟨0, by omega, rfl, by simp [Mem.freeN], hpic1, Only.refl _ _⟩
      case round =>
        obtain ⟨j, hj, rfl, rfl, hpj, hon⟩ := hrel
        have hBr : wr.heap[sb]? = some (.cells #[.int .i64 x, .int .i64 z, .string d] 43 (0, 0)) := by rw [hon.block _ (Array.getElem?_eq_some_iff.1 hsb).1 (by omega)]; exact hsb
        have q0 : wr.cell? ⟨sb, 0, none⟩ = some (.int .i64 x) := by rw [cell_of_heap hBr]; rfl
        have q1 : wr.cell? ⟨sb, 1, none⟩ = some (.int .i64 z) := by rw [cell_of_heap hBr]; rfl
        have q2 : wr.cell? ⟨sb, 2, none⟩ = some (.string d) := by rw [cell_of_heap hBr]; rfl
        clear hBr
        have hnsb : ¬ sb = w.heap.size + 1 := by omega
        by_cases hjlt : j < z
        · have hcv := hpj.cov (x + j) (by omega)
          have hfz := hpj.free
          have hm1 := hpj.setCov (x + j) (by omega) true
          have hfr : Hid (p.1.freeN x d (j + 1) = (p.1.freeN x d j && !(p.1.putN x d j).c (x + j))) := rfl
          by_cases hjd : j < d.size
          · have hby2 : (wr.setCell ⟨w.heap.size + 1, x + j, none⟩ (.bool true)).cell? ⟨w.heap.size + 1, 128 + (x + j), none⟩ = some (.int .u8 (((p.1.putN x d j).b (x + j)).toNat : Int)) := hm1.byt (x + j) (by omega)
            have hfz2 := hm1.free
            have q22 : (wr.setCell ⟨w.heap.size + 1, x + j, none⟩ (.bool true)).cell? ⟨sb, 2, none⟩ = some (.string d) := by
              rw [World.cell?_of_block (w := wr) (Below.heap_setCell _ _ _ _ hnsb)]; exact q2
            have q20 : (wr.setCell ⟨w.heap.size + 1, x + j, none⟩ (.bool true)).cell? ⟨sb, 0, none⟩ = some (.int .i64 x) := by
              rw [World.cell?_of_block (w := wr) (Below.heap_setCell _ _ _ _ hnsb)]; exact q0
            have hon2 : Only (· = w.heap.size + 1) w1 (wr.setCell ⟨w.heap.size + 1, x + j, none⟩ (.bool true)) := hon.setCell (by exact rfl) _
            cases hcc : (p.1.putN x d j).c (x + j)
            all_goals
              rw [hcc] at hcv hfr
              go_wp2
              generalize wr.setCell ⟨w.heap.size + 1, x + j, none⟩ (.bool true) = wx at *
              clear hpj hcv hfz q0 q1 q2 hon
              go_region
              all_goals go_wp2
              go_roundw
              case rel =>
                refine ⟨j + 1, by omega, by go_num, by rw [hfr.out]; simp, ?_, (hon2.setCell (by exact rfl) _).drew⟩
                have := (hm1.setByt (x + j) (d.data.toList.getD j 0)).drew
                rw [ba_getD d j hjd] at this
                simp only [Mem.putN, Mem.put, if_pos hjd]
                rw [ba_getD d j hjd]
                exact this
              case measure => simp [intOf]; omega
          · have hon2 : Only (· = w.heap.size + 1) w1 (wr.setCell ⟨w.heap.size + 1, x + j, none⟩ (.bool true)) := hon.setCell (by exact rfl) _
            have q22 : (wr.setCell ⟨w.heap.size + 1, x + j, none⟩ (.bool true)).cell? ⟨sb, 2, none⟩ = some (.string d) := by
              rw [World.cell?_of_block (w := wr) (Below.heap_setCell _ _ _ _ hnsb)]; exact q2
            cases hcc : (p.1.putN x d j).c (x + j)
            all_goals
              rw [hcc] at hcv hfr
              go_wp2
              go_roundw
              case rel =>
                refine ⟨j + 1, by omega, by go_num, by rw [hfr.out]; simp, ?_, hon2⟩
                simp only [Mem.putN, Mem.put, if_neg hjd]
                exact hm1
              case measure => simp [intOf]; omega
        · have hjz : j = z := by omega
          subst hjz
          go_wp2
          go_roundw
          case rel =>
            refine ⟨k + 1, by omega, by go_num, ⟨(p.1.putN x d j, p.2 && p.1.freeN x d j), by unfold Hid; rw [hp1.out, hp2.out], rfl, hpj⟩, ?_, ?_⟩
            · rw [hon.block _ (Array.getElem?_eq_some_iff.1 hz1).1 (by omega)]; exact hz1
            · exact hbel1.trans (hon.below hbel1.size (fun k hk => by omega))
          case measure => simp [intOf]; omega
    · have hall : Hid (p = drawAll l) := by
        have := hp.out
        rwa [List.take_of_length_le (by omega)] at this
      have hs1 := memV_size hpic.wf
      have hs0 : Try.zeroCells63.size = 256 := by rw [zero63]; exact memV_size mem0_wf
      have hsi : (Try.prog.info? 63).map (·.size) = some (memV p.1).size := by rw [hs1]; exact Try.size63
      have hone := memV_one p.1
      have hpb := hpic.hb
      have hzz := hz
      obtain ⟨cells, hcl⟩ : ∃ cells, cells = memV p.1 := ⟨_, rfl⟩
      have HCL : Hid (cells = memV p.1) := hcl
      rw [← hcl] at hs1 hsi hone hpb
      clear hcl
      go_wp2_with (first
        | (refine wpList_load_row rfl 63 _ rfl (w.heap.size + 1) rfl 63 cells (0, 0) _ hpb Try.underlying63 rfl hsi ?_)
        | (refine wpList_store_row rfl 63 _ _ rfl w.heap.size cells rfl rfl 63 _ hzz hsi (by rw [hs0, hs1]) hone ?_))
      refine bodyPost_ret (results_cell_tmp rfl _ _ w.heap.size 63 cells (0, 0) _ rfl (heap_setRow_at _ _ _ _ _ _ hzz) Try.underlying63 rfl hsi) rfl ⟨?_, below_setRow2 hbel (Nat.le_refl _) _⟩
      rw [← hall.out, ← HCL.out]; rfl
end Go.Proofs.Ytcokahccbjdeaaa
