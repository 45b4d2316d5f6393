import Derived.Test.YtcokahccbjdeaaaDoorStT
import Derived.Test.YtcokahccbjdeaaaDoorStR
import Derived.Test.YtcokahccbjdeaaaDoorLds
import Derived.Test.YtcokahccbjdeaaaDoorStL
import Derived.Test.YtcokahccbjdeaaaDoorStN
import Derived.Test.YtcokahccbjdeaaaDoorStO
namespace Go.Proofs.YtcokahccbjdeaaaDoor
open Go.RowKit

def opDev (c : ChipS) (o : OpS) : ChipS × Int := if o.kind = 2 then formatM c o.s else if o.kind = 3 then stageM c o.n else if o.kind = 4 then writeM c o.s else if o.kind = 5 then activM c else (c, 0)
theorem old1' (w : World) (a b c : Obj) : (((w.alloc a).alloc b).alloc c).heap[w.heap.size + 1]? = some b := alloc_heap (heap_alloc2_new w a b) c
theorem old0' (w : World) (a b c : Obj) : (((w.alloc a).alloc b).alloc c).heap[w.heap.size]? = some a := alloc_heap (heap_alloc2_old w a b) c
theorem calls_end {w wc : World} {b g : Nat} {c : ChipS} (hc : ChipAt wc b g c) (ho : Only (fun x => x = b ∨ x = g) w wc) (lb : b < w.heap.size) (lg : g < w.heap.size) (v0 v1 v2 v3 : Value) :
    ChipAt ((((wc.setCell ⟨w.heap.size + 1, 0, none⟩ v0).setCell ⟨w.heap.size + 1, 1, none⟩ v1).setCell ⟨w.heap.size + 1, 2, none⟩ v2).setCell ⟨w.heap.size + 1, 3, none⟩ v3).drew b g c ∧ Only (fun x => x = b ∨ x = g) w ((((wc.setCell ⟨w.heap.size + 1, 0, none⟩ v0).setCell ⟨w.heap.size + 1, 1, none⟩ v1).setCell ⟨w.heap.size + 1, 2, none⟩ v2).setCell ⟨w.heap.size + 1, 3, none⟩ v3).drew := by
  have far : ∀ (wx : World) (o : Nat) (v : Value) (i : Nat), i < w.heap.size → (wx.setCell ⟨w.heap.size + 1, o, none⟩ v).heap[i]? = wx.heap[i]? := fun wx o v i hi => heap_setCell_ne wx _ i o v (by omega)
  have e : ∀ i, i < w.heap.size → ((((wc.setCell ⟨w.heap.size + 1, 0, none⟩ v0).setCell ⟨w.heap.size + 1, 1, none⟩ v1).setCell ⟨w.heap.size + 1, 2, none⟩ v2).setCell ⟨w.heap.size + 1, 3, none⟩ v3).drew.heap[i]? = wc.heap[i]? := by
    intro i hi
    show ((((wc.setCell ⟨w.heap.size + 1, 0, none⟩ v0).setCell ⟨w.heap.size + 1, 1, none⟩ v1).setCell ⟨w.heap.size + 1, 2, none⟩ v2).setCell ⟨w.heap.size + 1, 3, none⟩ v3).heap[i]? = _
    rw [far _ _ _ _ hi, far _ _ _ _ hi, far _ _ _ _ hi, far _ _ _ _ hi]
  refine ⟨⟨(e b lb).trans hc.hb, (e g lg).trans hc.hg, hc.len, hc.ops0, hc.left1, hc.left0, hc.tn⟩, ⟨ho.os, ho.tape, ho.output, ?_, fun i hi hs => (e i hi).trans (ho.block i hi hs)⟩⟩
  show _ ≤ ((((wc.setCell ⟨w.heap.size + 1, 0, none⟩ v0).setCell ⟨w.heap.size + 1, 1, none⟩ v1).setCell ⟨w.heap.size + 1, 2, none⟩ v2).setCell ⟨w.heap.size + 1, 3, none⟩ v3).heap.size
  rw [size_set, size_set, size_set, size_set]; exact ho.size
set_option maxRecDepth 100000 in
set_option maxHeartbeats 8000000 in
theorem calls_format (w : World) (B k b g m : Nat) (c : ChipS) (d : Option Nat) (run : Int) (r : RefS) (n ct : Int) (s tn : ByteArray) (wh : Bool) (D : Desk B w k b g m c d run r) (hops : c.ops < 4611686018427370000) (hs : s.size < 4611686018427387904) :
    Calls Tryd.prog 40 #[.pointer (some ⟨k, 0, none⟩), OpS.v ⟨2, n, ct, s, tn, wh⟩] w fun e w' => e = .returned (.tuple #[.int .i64 (formatM c s).2, .agg noJump]) ∧ ChipAt w' b g (formatM c s).1 ∧ Only (fun x => x = b ∨ x = g) w w' := by
  have hb3 : ∀ x y z, Below w.heap.size w (((w.alloc x).alloc y).alloc z) := fun x y z => (((Below.refl _ _).alloc (Nat.le_refl _) _).alloc (by simp) _).alloc (by simp; omega) _
  obtain ⟨lk, lb, lg, lm⟩ := D.lt
  have nb1 : ¬ (w.heap.size + 1 = b ∨ w.heap.size + 1 = g) := by omega
  have nb2 : ¬ (w.heap.size + 2 = b ∨ w.heap.size + 2 = g) := by omega
  have HC := fun wx (hb : Below w.heap.size w wx) => format_any wx b g c s hs hops (D.dv.below hb)
  generalize formatM c s = out at *
  obtain ⟨c', e'⟩ := out
  simp only [OpS.v] at *
  have hk3 : ∀ x y z, (((w.alloc x).alloc y).alloc z).heap[k]? = some (.cells (deskC b d run m) 86 (0, 0)) := fun x y z => alloc_heap (alloc_heap (alloc_heap D.hk x) y) z
  clear D
  go_enter Tryd.func40, Tryd.ntmps40
  go_wp2
  have hA := old1' w (.cells #[.int .i64 2, .int .i64 n, .int .i64 ct, .string s, .string tn, .bool wh] 50) (.cells noJump 68) (.cells noJump 68)
  have hB := heap_alloc3_new w (.cells #[.int .i64 2, .int .i64 n, .int .i64 ct, .string s, .string tn, .bool wh] 50) (.cells noJump 68) (.cells noJump 68)
  have hO := old0' w (.cells #[.int .i64 2, .int .i64 n, .int .i64 ct, .string s, .string tn, .bool wh] 50) (.cells noJump 68) (.cells noJump 68)
  have hbz := hb3 (.cells #[.int .i64 2, .int .i64 n, .int .i64 ct, .string s, .string tn, .bool wh] 50) (.cells noJump 68) (.cells noJump 68)
  have hK := hk3 (.cells #[.int .i64 2, .int .i64 n, .int .i64 ct, .string s, .string tn, .bool wh] 50) (.cells noJump 68) (.cells noJump 68)
  simp only [noJump] at hA hB hO hbz hK
  generalize ((w.alloc (.cells #[.int .i64 2, .int .i64 n, .int .i64 ct, .string s, .string tn, .bool wh] 50)).alloc (.cells #[.bool false, .int .i64 0, .int .i64 0, .string ⟨#[]⟩] 68)).alloc (.cells #[.bool false, .int .i64 0, .int .i64 0, .string ⟨#[]⟩] 68) = wz at *
  have hA' : wz.heap[w.heap.size + 1]? = some (.cells noJump 68 (0, 0)) := hA
  have hB' : wz.heap[w.heap.size + 2]? = some (.cells noJump 68 (0, 0)) := hB
  obtain ⟨p0, p1, p2, p3, pf⟩ := desk_cells (w := wz.drew) hK
  have o1 : wz.drew.cell? ⟨w.heap.size, 1, none⟩ = some (.int .i64 n) := by rw [cell_of_heap (w := wz.drew) hO]; rfl
  have o3 : wz.drew.cell? ⟨w.heap.size, 3, none⟩ = some (.string s) := by rw [cell_of_heap (w := wz.drew) hO]; rfl
  clear hA hB hk3 hb3
  go_region_with (go_at_call 46; refine (HC _ hbz.drew).mono ?_; rintro en w2 ⟨rfl, hc, ho2⟩)
  all_goals
    have ho := (Only.of_below (fun x => x = b ∨ x = g) hbz.drew).trans ho2
    have hA2 := ho2.heap (w := wz.drew) hA' nb1
    have hB2 := ho2.heap (w := wz.drew) hB' nb2
    clear p0 p1 p2 p3 pf o1 o3
    obtain ⟨x0, x1, x2, x3, xf⟩ := jump_cells hA2
    obtain ⟨y0, y1, y2, y3, yf⟩ := jump_cells hB2
    go_wp2
    go_region
    all_goals go_wp2
    all_goals refine bodyPost_ret (v := .tuple #[.int .i64 e', .agg noJump]) (by simp [results, Tryd.results40, go_sem, noJump, x0, x1, x2, x3]) rfl ⟨rfl, ?_⟩
    all_goals exact calls_end hc ho lb lg _ _ _ _
set_option maxRecDepth 100000 in
set_option maxHeartbeats 8000000 in
theorem calls_stage (w : World) (B k b g m : Nat) (c : ChipS) (d : Option Nat) (run : Int) (r : RefS) (n ct : Int) (s tn : ByteArray) (wh : Bool) (D : Desk B w k b g m c d run r) (hops : c.ops < 4611686018427370000) (q : Nat) (hq : d = some q) (hok : ∀ x, loadM c.cells = some x → x.ok) :
    Calls Tryd.prog 40 #[.pointer (some ⟨k, 0, none⟩), OpS.v ⟨3, n, ct, s, tn, wh⟩] w fun e w' => e = .returned (.tuple #[.int .i64 (stageM c n).2, .agg noJump]) ∧ ChipAt w' b g (stageM c n).1 ∧ Only (fun x => x = b ∨ x = g) w w' := by
  have hb3 : ∀ x y z, Below w.heap.size w (((w.alloc x).alloc y).alloc z) := fun x y z => (((Below.refl _ _).alloc (Nat.le_refl _) _).alloc (by simp) _).alloc (by simp; omega) _
  obtain ⟨lk, lb, lg, lm⟩ := D.lt
  have nb1 : ¬ (w.heap.size + 1 = b ∨ w.heap.size + 1 = g) := by omega
  have nb2 : ¬ (w.heap.size + 2 = b ∨ w.heap.size + 2 = g) := by omega
  have HC := fun wx (hb : Below w.heap.size w wx) => stage_any wx q b g c run n hops (D.dv.below hb) (below_heap hb (D.hd q hq).1) hok
  generalize stageM c n = out at *
  obtain ⟨c', e'⟩ := out
  simp only [OpS.v] at *
  have hk3 : ∀ x y z, (((w.alloc x).alloc y).alloc z).heap[k]? = some (.cells (deskC b d run m) 86 (0, 0)) := fun x y z => alloc_heap (alloc_heap (alloc_heap D.hk x) y) z
  clear D
  subst hq
  go_enter Tryd.func40, Tryd.ntmps40
  go_wp2
  have hA := old1' w (.cells #[.int .i64 3, .int .i64 n, .int .i64 ct, .string s, .string tn, .bool wh] 50) (.cells noJump 68) (.cells noJump 68)
  have hB := heap_alloc3_new w (.cells #[.int .i64 3, .int .i64 n, .int .i64 ct, .string s, .string tn, .bool wh] 50) (.cells noJump 68) (.cells noJump 68)
  have hO := old0' w (.cells #[.int .i64 3, .int .i64 n, .int .i64 ct, .string s, .string tn, .bool wh] 50) (.cells noJump 68) (.cells noJump 68)
  have hbz := hb3 (.cells #[.int .i64 3, .int .i64 n, .int .i64 ct, .string s, .string tn, .bool wh] 50) (.cells noJump 68) (.cells noJump 68)
  have hK := hk3 (.cells #[.int .i64 3, .int .i64 n, .int .i64 ct, .string s, .string tn, .bool wh] 50) (.cells noJump 68) (.cells noJump 68)
  simp only [noJump] at hA hB hO hbz hK
  generalize ((w.alloc (.cells #[.int .i64 3, .int .i64 n, .int .i64 ct, .string s, .string tn, .bool wh] 50)).alloc (.cells #[.bool false, .int .i64 0, .int .i64 0, .string ⟨#[]⟩] 68)).alloc (.cells #[.bool false, .int .i64 0, .int .i64 0, .string ⟨#[]⟩] 68) = wz at *
  have hA' : wz.heap[w.heap.size + 1]? = some (.cells noJump 68 (0, 0)) := hA
  have hB' : wz.heap[w.heap.size + 2]? = some (.cells noJump 68 (0, 0)) := hB
  obtain ⟨p0, p1, p2, p3, pf⟩ := desk_cells (w := wz.drew) hK
  simp only [devV] at p1
  have o1 : wz.drew.cell? ⟨w.heap.size, 1, none⟩ = some (.int .i64 n) := by rw [cell_of_heap (w := wz.drew) hO]; rfl
  have o3 : wz.drew.cell? ⟨w.heap.size, 3, none⟩ = some (.string s) := by rw [cell_of_heap (w := wz.drew) hO]; rfl
  clear hA hB hk3 hb3
  go_region_with (go_at_call 22; refine (HC _ hbz.drew).mono ?_; rintro en w2 ⟨rfl, hc, ho2⟩)
  all_goals
    have ho := (Only.of_below (fun x => x = b ∨ x = g) hbz.drew).trans ho2
    have hA2 := ho2.heap (w := wz.drew) hA' nb1
    have hB2 := ho2.heap (w := wz.drew) hB' nb2
    clear p0 p1 p2 p3 pf o1 o3
    obtain ⟨x0, x1, x2, x3, xf⟩ := jump_cells hA2
    obtain ⟨y0, y1, y2, y3, yf⟩ := jump_cells hB2
    go_wp2
    go_region
    all_goals go_wp2
    all_goals refine bodyPost_ret (v := .tuple #[.int .i64 e', .agg noJump]) (by simp [results, Tryd.results40, go_sem, noJump, x0, x1, x2, x3]) rfl ⟨rfl, ?_⟩
    all_goals exact calls_end hc ho lb lg _ _ _ _
set_option maxRecDepth 100000 in
set_option maxHeartbeats 8000000 in
theorem calls_write (w : World) (B k b g m : Nat) (c : ChipS) (d : Option Nat) (run : Int) (r : RefS) (n ct : Int) (s tn : ByteArray) (wh : Bool) (D : Desk B w k b g m c d run r) (hops : c.ops < 4611686018427370000) (q : Nat) (hq : d = some q) (hok : ∀ x, loadM c.cells = some x → x.ok) (hs : s.size < 4611686018427387904) :
    Calls Tryd.prog 40 #[.pointer (some ⟨k, 0, none⟩), OpS.v ⟨4, n, ct, s, tn, wh⟩] w fun e w' => e = .returned (.tuple #[.int .i64 (writeM c s).2, .agg noJump]) ∧ ChipAt w' b g (writeM c s).1 ∧ Only (fun x => x = b ∨ x = g) w w' := by
  have hb3 : ∀ x y z, Below w.heap.size w (((w.alloc x).alloc y).alloc z) := fun x y z => (((Below.refl _ _).alloc (Nat.le_refl _) _).alloc (by simp) _).alloc (by simp; omega) _
  obtain ⟨lk, lb, lg, lm⟩ := D.lt
  have nb1 : ¬ (w.heap.size + 1 = b ∨ w.heap.size + 1 = g) := by omega
  have nb2 : ¬ (w.heap.size + 2 = b ∨ w.heap.size + 2 = g) := by omega
  have HC := fun wx (hb : Below w.heap.size w wx) => write_any wx q b g c run s hs hops (D.dv.below hb) (below_heap hb (D.hd q hq).1) hok
  generalize writeM c s = out at *
  obtain ⟨c', e'⟩ := out
  simp only [OpS.v] at *
  have hk3 : ∀ x y z, (((w.alloc x).alloc y).alloc z).heap[k]? = some (.cells (deskC b d run m) 86 (0, 0)) := fun x y z => alloc_heap (alloc_heap (alloc_heap D.hk x) y) z
  clear D
  subst hq
  go_enter Tryd.func40, Tryd.ntmps40
  go_wp2
  have hA := old1' w (.cells #[.int .i64 4, .int .i64 n, .int .i64 ct, .string s, .string tn, .bool wh] 50) (.cells noJump 68) (.cells noJump 68)
  have hB := heap_alloc3_new w (.cells #[.int .i64 4, .int .i64 n, .int .i64 ct, .string s, .string tn, .bool wh] 50) (.cells noJump 68) (.cells noJump 68)
  have hO := old0' w (.cells #[.int .i64 4, .int .i64 n, .int .i64 ct, .string s, .string tn, .bool wh] 50) (.cells noJump 68) (.cells noJump 68)
  have hbz := hb3 (.cells #[.int .i64 4, .int .i64 n, .int .i64 ct, .string s, .string tn, .bool wh] 50) (.cells noJump 68) (.cells noJump 68)
  have hK := hk3 (.cells #[.int .i64 4, .int .i64 n, .int .i64 ct, .string s, .string tn, .bool wh] 50) (.cells noJump 68) (.cells noJump 68)
  simp only [noJump] at hA hB hO hbz hK
  generalize ((w.alloc (.cells #[.int .i64 4, .int .i64 n, .int .i64 ct, .string s, .string tn, .bool wh] 50)).alloc (.cells #[.bool false, .int .i64 0, .int .i64 0, .string ⟨#[]⟩] 68)).alloc (.cells #[.bool false, .int .i64 0, .int .i64 0, .string ⟨#[]⟩] 68) = wz at *
  have hA' : wz.heap[w.heap.size + 1]? = some (.cells noJump 68 (0, 0)) := hA
  have hB' : wz.heap[w.heap.size + 2]? = some (.cells noJump 68 (0, 0)) := hB
  obtain ⟨p0, p1, p2, p3, pf⟩ := desk_cells (w := wz.drew) hK
  simp only [devV] at p1
  have o1 : wz.drew.cell? ⟨w.heap.size, 1, none⟩ = some (.int .i64 n) := by rw [cell_of_heap (w := wz.drew) hO]; rfl
  have o3 : wz.drew.cell? ⟨w.heap.size, 3, none⟩ = some (.string s) := by rw [cell_of_heap (w := wz.drew) hO]; rfl
  clear hA hB hk3 hb3
  go_region_with (go_at_call 23; refine (HC _ hbz.drew).mono ?_; rintro en w2 ⟨rfl, hc, ho2⟩)
  all_goals
    have ho := (Only.of_below (fun x => x = b ∨ x = g) hbz.drew).trans ho2
    have hA2 := ho2.heap (w := wz.drew) hA' nb1
    have hB2 := ho2.heap (w := wz.drew) hB' nb2
    clear p0 p1 p2 p3 pf o1 o3
    obtain ⟨x0, x1, x2, x3, xf⟩ := jump_cells hA2
    obtain ⟨y0, y1, y2, y3, yf⟩ := jump_cells hB2
    go_wp2
    go_region
    all_goals go_wp2
    all_goals refine bodyPost_ret (v := .tuple #[.int .i64 e', .agg noJump]) (by simp [results, Tryd.results40, go_sem, noJump, x0, x1, x2, x3]) rfl ⟨rfl, ?_⟩
    all_goals exact calls_end hc ho lb lg _ _ _ _
set_option maxRecDepth 100000 in
set_option maxHeartbeats 8000000 in
theorem calls_activate (w : World) (B k b g m : Nat) (c : ChipS) (d : Option Nat) (run : Int) (r : RefS) (n ct : Int) (s tn : ByteArray) (wh : Bool) (D : Desk B w k b g m c d run r) (hops : c.ops < 4611686018427370000) (q : Nat) (hq : d = some q) (hok : ∀ x, loadM c.cells = some x → x.ok) :
    Calls Tryd.prog 40 #[.pointer (some ⟨k, 0, none⟩), OpS.v ⟨5, n, ct, s, tn, wh⟩] w fun e w' => e = .returned (.tuple #[.int .i64 (activM c).2, .agg noJump]) ∧ ChipAt w' b g (activM c).1 ∧ Only (fun x => x = b ∨ x = g) w w' := by
  have hb3 : ∀ x y z, Below w.heap.size w (((w.alloc x).alloc y).alloc z) := fun x y z => (((Below.refl _ _).alloc (Nat.le_refl _) _).alloc (by simp) _).alloc (by simp; omega) _
  obtain ⟨lk, lb, lg, lm⟩ := D.lt
  have nb1 : ¬ (w.heap.size + 1 = b ∨ w.heap.size + 1 = g) := by omega
  have nb2 : ¬ (w.heap.size + 2 = b ∨ w.heap.size + 2 = g) := by omega
  have HC := fun wx (hb : Below w.heap.size w wx) => activate_any wx q b g c run hops (D.dv.below hb) (below_heap hb (D.hd q hq).1) hok
  generalize activM c = out at *
  obtain ⟨c', e'⟩ := out
  simp only [OpS.v] at *
  have hk3 : ∀ x y z, (((w.alloc x).alloc y).alloc z).heap[k]? = some (.cells (deskC b d run m) 86 (0, 0)) := fun x y z => alloc_heap (alloc_heap (alloc_heap D.hk x) y) z
  clear D
  subst hq
  go_enter Tryd.func40, Tryd.ntmps40
  have HC' := fun x y z => HC (((w.alloc x).alloc y).alloc z) (hb3 x y z)
  have p1 : ∀ x y z, (((w.alloc x).alloc y).alloc z).cell? ⟨k, 1, none⟩ = some (.pointer (some ⟨q, 0, none⟩)) := fun x y z => (desk_cells (hk3 x y z)).2.1
  go_wp2_with (go_at_call 25; refine (HC' _ _ _).mono ?_; rintro en w2 ⟨rfl, hc, ho2⟩; have hA := ho2.heap (old1' w _ _ _) nb1; have hB := ho2.heap (heap_alloc3_new w _ _ _) nb2; have hA2 : w2.heap[w.heap.size + 1]? = some (.cells noJump 68 (0, 0)) := hA; have hB2 : w2.heap[w.heap.size + 2]? = some (.cells noJump 68 (0, 0)) := hB; have ho := (Only.of_below (fun x => x = b ∨ x = g) (hb3 _ _ _)).trans ho2; clear hA hB; obtain ⟨x0, x1, x2, x3, xf⟩ := jump_cells hA2; obtain ⟨y0, y1, y2, y3, yf⟩ := jump_cells hB2)
  go_region
  all_goals go_wp2
  all_goals refine bodyPost_ret (v := .tuple #[.int .i64 e', .agg noJump]) (by simp [results, Tryd.results40, go_sem, noJump, x0, x1, x2, x3]) rfl ⟨rfl, ?_⟩
  all_goals exact calls_end hc ho lb lg _ _ _ _
end Go.Proofs.YtcokahccbjdeaaaDoor
