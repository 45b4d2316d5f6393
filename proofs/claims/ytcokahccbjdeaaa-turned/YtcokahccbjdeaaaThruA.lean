import Derived.Test.YtcokahccbjdeaaaKeepG
import Derived.Test.YtcokahccbjdeaaaKeepI
namespace Go.Proofs.Ytcokahccbjdeaaa
open Go.RowKit

theorem lay_drawn {l : List Seg} {m : Mem} (hf : ∀ s ∈ l, s.fits = true) (h : layAll l = some m) : drawAll l = (m, true) := by
  have := lay_draw l hf
  rw [h] at this
  split at this
  · rename_i hc
    exact Prod.ext (Option.some.inj this).symm hc
  · cases this

/-- a list of segments that lies in the store -/
structure SegsIn (w : World) (a : Option Addr) (l : List Seg) : Prop where
  at' : ∃ b o, (l ≠ [] → a = some ⟨b, o, none⟩) ∧ SegsAt w b o l ∧ (l ≠ [] → b < w.heap.size)
theorem SegsIn.kept {w w' : World} {a : Option Addr} {l : List Seg} (h : SegsIn w a l) (hb : Below w.heap.size w w') : SegsIn w' a l := by
  obtain ⟨b, o, h1, h2, h3⟩ := h.at'
  exact ⟨b, o, h1, h2.kept h3 hb, fun h => Nat.lt_of_lt_of_le (h3 h) hb.size⟩
theorem SegsIn.of_own {w : World} {base n cap : Nat} {a : Option Addr} {l : List Seg} (h : w.ownsRow base 43 3 (.slice a n cap) n (segCells l)) : SegsIn w a l := by
  obtain ⟨_, a1, b1, cap1, hv, h1, h2, h3, _⟩ := SegsAt_of_own h
  cases hv
  exact ⟨b1, 0, h1, h2, fun h => (h3 h).1⟩

theorem memory_in (w : World) (a : Option Addr) (cap : Nat) (l : List Seg) (m : Mem) (h : SegsIn w a l) (hfit : ∀ s ∈ l, s.fits = true) (hl : layAll l = some m) (hlen : l.length < 4611686018427387904) :
    Calls Try.prog 27 #[.slice a l.length cap] w fun e w' => e = .returned (.string (mk m.byt)) ∧ Below w.heap.size w w' := by
  obtain ⟨b, o, h1, h2, h3⟩ := h.at'
  have := memory_any w a b o cap l h1 h2 hfit h3 hlen
  rw [lay_drawn hfit hl] at this
  exact this
theorem covered_in (w : World) (a : Option Addr) (cap : Nat) (l : List Seg) (n : Int) (h : SegsIn w a l) (hfit : ∀ s ∈ l, s.fits = true) (hlen : l.length < 4611686018427387904) :
    Calls Try.prog 33 #[.slice a l.length cap, .int .i64 n] w fun e w' => e = .returned (.int .i64 (coverN l n)) ∧ Below w.heap.size w w' := by
  obtain ⟨b, o, h1, h2, h3⟩ := h.at'
  refine (covered_any w a b o cap l n h1 h2 hfit hlen).mono ?_
  rintro e w' ⟨rfl, j, rfl⟩
  exact ⟨rfl, ⟨rfl, rfl, rfl, Nat.le_refl _, fun _ _ => rfl⟩⟩
theorem pack_in (w : World) (v e : Int) (a : Option Addr) (cap : Nat) (l : List Seg) (m : Mem) (h : SegsIn w a l) (hfit : ∀ s ∈ l, s.fits = true) (hl : layAll l = some m) (h1 : 1 ≤ l.length) (h8 : l.length ≤ 8) (hm : Made v e m) :
    Calls Try.prog 14 #[.int .i64 v, .int .i64 e, .slice a l.length cap] w fun en w' => en = .returned (.tuple #[.string (mk (textOf v e (runsOf m))), .int .i64 0]) ∧ Below w.heap.size w w' := by
  obtain ⟨b, o, q1, q2, q3⟩ := h.at'
  have hok : ∀ s ∈ l, s.ok := by
    intro s hs
    obtain ⟨f1, f2, f3, f4⟩ := (Seg.fits_iff _).1 (hfit s hs)
    exact ⟨by omega, by omega, by omega, by omega, by omega⟩
  have := twinPack_any w v e a b o cap l q1 q2 hok q3 (by omega)
  rw [pack_lays hm hfit h1 h8 hl] at this
  exact this

set_option maxRecDepth 100000 in
set_option maxHeartbeats 4000000 in
theorem alike_any (w : World) (a1 a2 : Option Addr) (cap1 cap2 : Nat) (l1 l2 : List Seg) (m : Mem) (h1 : SegsIn w a1 l1) (h2 : SegsIn w a2 l2) (hf1 : ∀ s ∈ l1, s.fits = true) (hf2 : ∀ s ∈ l2, s.fits = true) (hl1 : layAll l1 = some m) (hl2 : layAll l2 = some m) (hn1 : l1.length < 4611686018427387904) (hn2 : l2.length < 4611686018427387904) :
    Calls Try.prog 30 #[.slice a1 l1.length cap1, .slice a2 l2.length cap2] w fun e w' => e = .returned (.bool true) ∧ Below w.heap.size w w' := by
  have M1 := memory_in w a1 cap1 l1 m h1 hf1 hl1 hn1
  have M2 := fun wx hx => memory_in wx a2 cap2 l2 m hx hf2 hl2 hn2
  have hcov : ∀ k : Nat, coverN l1 k = coverN l2 k := fun k => by rw [coverN_lay hl1, coverN_lay hl2]
  have C1 := fun wx (n : Int) hx => covered_in wx a1 cap1 l1 n hx hf1 hn1
  have C2 := fun wx (n : Int) hx => covered_in wx a2 cap2 l2 n hx hf2 hn2
  generalize mk m.byt = mem at *
  clear hl1 hl2
  go_enter Try.func30, Try.ntmps30
  go_wp2_with (first
    | (go_at_call 27; refine M1.mono ?_; rintro en w1 ⟨rfl, hb1⟩; clear M1; have h1a := h1.kept hb1; have h2a := h2.kept hb1; have t1 : True := trivial)
    | (go_at_call 27; have _t := t1; refine (M2 _ h2a).mono ?_; rintro en w2 ⟨rfl, hb2⟩; clear M2; have h1b := h1a.kept hb2; have h2b := h2a.kept hb2; have hbb := hb1.trans (hb2.mono hb1.size)))
  clear h1a h2a hb1 hb2 t1
  go_loopw [7, 8, 9] (fun i _ _ wr => ∃ k : Nat, k ≤ 128 ∧ i = .int .i64 k ∧ Below w.heap.size w wr ∧ Hid (SegsIn wr a1 l1) ∧ Hid (SegsIn wr a2 l2)) (fun i _ _ _ => 128 - (intOf i).toNat)
  case atStart => exact ⟨0, by omega, rfl, hbb, h1b, h2b⟩
  case round =>
    obtain ⟨k, hk, rfl, hbel, s1, s2⟩ := hrel
    by_cases hlt : k < 128
    · have hltI : (k : Int) < 128 := by omega
      have D1 := C1 wr k s1.out
      have hck := hcov k
      rw [hck] at D1
      have D2 := fun wx hx => C2 wx k hx
      generalize coverN l2 (k : Int) = c at *
      clear hck
      go_wp2_with (first
        | (go_at_call 33; refine D1.mono ?_; rintro en w1 ⟨rfl, hb1⟩; clear D1; have s1a := s1.out.kept hb1; have s2a := s2.out.kept hb1; have t1 : True := trivial)
        | (go_at_call 33; have _t := t1; refine (D2 _ s2a).mono ?_; rintro en w3 ⟨rfl, hb3⟩; clear D2; have s1b := s1a.kept hb3; have s2b := s2a.kept hb3; have hbc := hbel.trans ((hb1.trans (hb3.mono hb1.size)).mono hbel.size)))
      go_roundw
      case rel => exact ⟨k + 1, by omega, by go_num, hbc, s1b, s2b⟩
      case measure => simp [intOf]; omega
    · have hltI : ¬ (k : Int) < 128 := by omega
      go_wp2
      go_ret
      exact ⟨rfl, hbel⟩
end Go.Proofs.Ytcokahccbjdeaaa
