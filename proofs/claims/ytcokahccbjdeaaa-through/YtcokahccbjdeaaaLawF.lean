import Derived.Test.YtcokahccbjdeaaaLawE
import Derived.Test.YtcokahccbjdeaaaLawD
namespace Go.Proofs.Ytcokahccbjdeaaa
open Go.RowKit

theorem unpack_ne {l : List UInt8} {v e : Int} {rs : List Seg} (h : unpackM l = some (v, e, rs)) : rs ≠ [] ∧ rs.length ≤ 8 := by
  unfold unpackM at h
  split at h
  · cases h
  · split at h
    · rename_i hp
      simp only [Option.some.injEq, Prod.mk.injEq] at h
      obtain ⟨rfl, rfl, rfl⟩ := h
      obtain ⟨m, _, _, haf, _⟩ := pack_ok hp
      simp only [allFit, Bool.and_eq_true, decide_eq_true_eq] at haf
      refine ⟨fun e => ?_, haf.1.2⟩
      rw [e] at haf
      simp at haf
    · cases h

theorem own_row {w : World} {base n : Nat} {a : Option Addr} {cap : Nat} {xs : List Value} (h : w.ownsRow base 43 3 (.slice a n cap) n xs) (hn : 0 < n) :
    ∃ g cur, a = some ⟨g, 0, none⟩ ∧ base ≤ g ∧ w.heap[g]? = some (.cells cur 43 (0, 0)) ∧ cur.size = cap * 3 ∧ n ≤ cap ∧ cap ≤ 9223372036854775807 ∧ cur.toList.take (n * 3) = xs := by
  rcases h.2 with ⟨_, h0⟩ | ⟨g, cap', cur, hv, hg, hh, h1, h2, h3, h4⟩
  · omega
  · cases hv
    exact ⟨g, cur, rfl, hg, hh, h3, h1, h2, h4⟩

theorem segs_of_cur {w : World} {g : Nat} {l : List Seg} {cur : Array Value} (h : w.heap[g]? = some (.cells cur 43 (0, 0))) (hc : cur.toList.take (l.length * 3) = segCells l) : SegsAt w g 0 l := by
  have e : cur = (segCells l ++ cur.toList.drop (l.length * 3)).toArray := by
    rw [← hc, List.take_append_drop]
  rw [e] at h
  exact segs_of_row h ⟨_, rfl⟩

set_option maxRecDepth 100000 in
set_option maxHeartbeats 4000000 in
theorem unpacks_law (w : World) (s : ByteArray) (hs : s.size < 4611686018427387904) :
    Calls Try.prog 5 #[.string s] w fun en w' => en = .returned (.bool true) ∧ Below w.heap.size w w' := by
  cases hu : unpackM s.data.toList with
  | none =>
    have hr : unpackR s.data.toList = none := by rw [← unpack_eq]; exact hu
    have HU := fun wx => twinUnpack_none wx s hs hu
    have HR : ∀ wx, Calls Try.prog 18 #[.string s] wx fun e w' => e = .returned (.tuple #[.int .i64 0, .int .i64 0, .slice none 0 0, .int .i64 6]) ∧ Below wx.heap.size wx w' := fun wx => (refUnpack_any wx s hs).mono fun _ _ hh => ⟨hh.1 hr, hh.2.2⟩
    have HS : ∀ wx, Calls Try.prog 19 #[.slice none 0 0, .slice none 0 0] wx fun e w' => e = .returned (.bool true) ∧ Below wx.heap.size wx w' := fun wx => sameSegments_any wx none none 0 0 0 0 0 0 [] (by simp) (by simp) (fun i hi => by simp at hi) (fun i hi => by simp at hi) (by simp) (by simp) (by simp)
    clear hu hr
    have t1 : True := trivial
    have t2 : True := trivial
    go_enter Try.func5, Try.ntmps5
    go_wp2_with (first
      | (go_at_call 17; have _t := t1; refine (HU _).mono ?_; rintro en w1 ⟨rfl, hb1⟩; clear t1)
      | (go_at_call 18; refine (HR _).mono ?_; rintro en w2 ⟨rfl, hb2⟩)
      | (go_at_call 19; have _t := t2; refine (HS _).mono ?_; rintro en w3 ⟨rfl, hb3⟩; clear t2)
      | (go_at_call 20; refine (marked_nil _).mono ?_; rintro en w4 ⟨rfl, rfl⟩)
      | (go_at_call 17; refine (HU _).mono ?_; rintro en w5 ⟨rfl, hb5⟩)
      | (go_at_call 19; refine (HS _).mono ?_; rintro en w6 ⟨rfl, hb6⟩)
      | (go_at_call 21; refine (still_nil _).mono ?_; rintro en w7 ⟨rfl, rfl⟩))
    go_ret
    refine ⟨rfl, ?_⟩
    have k2 := hb1.trans (hb2.mono hb1.size)
    have k3 := k2.trans (hb3.mono k2.size)
    have k5 := k3.trans (hb5.mono k3.size)
    exact k5.trans (hb6.mono k5.size)
  | some q =>
    obtain ⟨v, e, rs⟩ := q
    have hr : unpackR s.data.toList = some (v, e, rs) := by rw [← unpack_eq]; exact hu
    obtain ⟨hne, hl8⟩ := unpack_ne hu
    have hpos : 0 < rs.length := List.length_pos_iff.2 hne
    have HU := fun wx => twinUnpack_some wx s v e rs hu
    have HR : ∀ wx, Calls Try.prog 18 #[.string s] wx fun en w' => ∃ (a : Option Addr) (cap : Nat), en = .returned (.tuple #[.int .i64 v, .int .i64 e, .slice a rs.length cap, .int .i64 0]) ∧ w'.ownsRow wx.heap.size 43 3 (.slice a rs.length cap) rs.length (segCells rs) ∧ Below wx.heap.size wx w' := fun wx => (refUnpack_any wx s hs).mono fun _ _ hh => by
      obtain ⟨a, cap, h1, h2⟩ := hh.2.1 v e rs hr
      exact ⟨a, cap, h1, h2, hh.2.2⟩
    have HS : ∀ (wx : World) (g1 g2 cap1 cap2 : Nat), SegsAt wx g1 0 rs → SegsAt wx g2 0 rs → g1 < wx.heap.size → g2 < wx.heap.size → Calls Try.prog 19 #[.slice (some ⟨g1, 0, none⟩) rs.length cap1, .slice (some ⟨g2, 0, none⟩) rs.length cap2] wx fun e w' => e = .returned (.bool true) ∧ Below wx.heap.size wx w' := fun wx g1 g2 cap1 cap2 h1 h2 h3 h4 => sameSegments_any wx _ _ g1 0 g2 0 cap1 cap2 rs (fun _ => rfl) (fun _ => rfl) h1 h2 (fun _ => h3) (fun _ => h4) (by omega)
    clear hu hr
    have t1 : True := trivial
    have t2 : True := trivial
    go_enter Try.func5, Try.ntmps5
    go_wp2_with (first
      | (go_at_call 17; have _t := t1; refine (HU _).mono ?_; rintro en w1 ⟨a1, cap1, rfl, hown1, hb1⟩; clear t1; obtain ⟨g1, cur1, rfl, hg1, hh1, hs1, hn1, hm1, hx1⟩ := own_row hown1 hpos; clear hown1)
      | (go_at_call 18; refine (HR _).mono ?_; rintro en w2 ⟨a2, cap2, rfl, hown2, hb2⟩; obtain ⟨g2, cur2, rfl, hg2, hh2, hs2, hn2, hm2, hx2⟩ := own_row hown2 hpos; clear hown2; have hh1' := (hb2.block _ (Array.getElem?_eq_some_iff.1 hh1).1).trans hh1)
      | (go_at_call 19; have _t := t2; refine (HS w2 g1 g2 cap1 cap2 (segs_of_cur hh1' hx1) (segs_of_cur hh2 hx2) (Array.getElem?_eq_some_iff.1 hh1').1 (Array.getElem?_eq_some_iff.1 hh2).1).mono ?_; rintro en w3 ⟨rfl, hb3⟩; clear t2; have hh1'' := (hb3.block _ (Array.getElem?_eq_some_iff.1 hh1').1).trans hh1'; have hh2' := (hb3.block _ (Array.getElem?_eq_some_iff.1 hh2).1).trans hh2)
      | (go_at_call 20; refine (marked_row w3 g1 rs.length cap1 cur1 hh1'' hs1 hn1 hm1 (by omega)).mono ?_; rintro en w4 ⟨rfl, hmk4, ho4⟩; have hh2'' := (ho4.block _ (Array.getElem?_eq_some_iff.1 hh2').1 (by have := (Array.getElem?_eq_some_iff.1 hh1).1; omega)).trans hh2')
      | (go_at_call 17; refine (HU w4).mono ?_; rintro en w5 ⟨a5, cap5, rfl, hown5, hb5⟩; obtain ⟨g5, cur5, rfl, hg5, hh5, hs5, hn5, hm5, hx5⟩ := own_row hown5 hpos; clear hown5; have hh2''' := (hb5.block _ (Array.getElem?_eq_some_iff.1 hh2'').1).trans hh2''; have hmk5 := (hb5.block _ (Array.getElem?_eq_some_iff.1 hmk4).1).trans hmk4)
      | (go_at_call 19; refine (HS w5 g5 g2 cap5 cap2 (segs_of_cur hh5 hx5) (segs_of_cur hh2''' hx2) (Array.getElem?_eq_some_iff.1 hh5).1 (Array.getElem?_eq_some_iff.1 hh2''').1).mono ?_; rintro en w6 ⟨rfl, hb6⟩; have hmk6 := (hb6.block _ (Array.getElem?_eq_some_iff.1 hmk5).1).trans hmk5)
      | (go_at_call 21; refine (still_row w6 g1 cap1 hmk6 hm1).mono ?_; rintro en w7 ⟨rfl, hb7⟩))
    go_ret
    refine ⟨rfl, ?_⟩
    have k2 := hb1.trans (hb2.mono hb1.size)
    have k3 := k2.trans (hb3.mono k2.size)
    have k4 := k3.trans (ho4.below k3.size (fun k hk => by omega))
    have k5 := k4.trans (hb5.mono k4.size)
    have k6 := k5.trans (hb6.mono k5.size)
    exact k6.trans (hb7.mono k6.size)
end Go.Proofs.Ytcokahccbjdeaaa
