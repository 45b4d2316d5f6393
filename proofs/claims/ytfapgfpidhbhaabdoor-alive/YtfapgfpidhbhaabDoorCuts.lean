import Derived.Test.YtfapgfpidhbhaabDoorDevs
namespace Go.Proofs.YtfapgfpidhbhaabDoor
open Go.RowKit

/-- Which bits of an operation's byte are done, where the power is cut in it. -/
def ChipS.mask (c : ChipS) (i : Nat) : UInt8 := if c.torn.size = 0 then 0 else c.torn.data.toList.getD (i % c.torn.size) 0
/-- An operation of which the bits of T are done. -/
def Prim.tornF (p : Prim) (T : Nat → UInt8) (f : Nat → UInt8) : Nat → UInt8 := fun i =>
  match p with
  | Sum.inl s => if s * 256 ≤ i ∧ i < s * 256 + 256 then f i ||| T (i - s * 256) else f i
  | Sum.inr (o, d) => if o ≤ i ∧ i < o + d.length then f i &&& (d.getD (i - o) 0 ||| ~~~ T (i - o)) else f i
theorem prim_full {c : ChipS} (hd : c.dead = false) (hl : c.cells.length = 1024) (hgo : c.armed = false ∨ 0 < c.left) (p : Prim) (hp : p.ok) :
    (c.prim p).cells.length = 1024 ∧ (c.prim p).at = p.full c.at ∧ (c.prim p).ops = c.ops + 1 ∧ (c.prim p).dead = false ∧ (c.prim p).armed = c.armed ∧ (c.prim p).torn = c.torn ∧ (c.armed = true → (c.prim p).left = c.left - 1) := by
  have hb : ∃ lf, c.begins = ({ c with ops := c.ops + 1, left := lf }, true, false) ∧ (c.armed = true → lf = c.left - 1) := by
    clear hl hp
    obtain ⟨cl, ar, lf, tn, dd, op⟩ := c
    simp only at hd hgo
    subst hd
    cases ar
    · exact ⟨lf, by simp [ChipS.begins], by simp⟩
    · have : 0 < lf := by simpa using hgo
      exact ⟨lf - 1, by simp [ChipS.begins, this], fun _ => rfl⟩
  obtain ⟨lf, hb, hlf⟩ := hb
  match p, hp with
  | Sum.inl s, hp =>
    simp only [Prim.ok] at hp
    have he : c.prim (.er s) = { c with ops := c.ops + 1, left := lf, cells := eraseN (fun k => 255) (s * 256) 256 c.cells } := by
      show c.erase s = _
      unfold ChipS.erase
      rw [if_neg (by omega), hb]
      simp [ChipS.done]
    rw [he]
    refine ⟨by simp [eraseN_length, hl], ?_, rfl, hd, rfl, rfl, hlf⟩
    funext i
    simp only [ChipS.at]
    rw [eraseN_getD _ _ _ _ _ (by omega)]
    simp only [Prim.full, or_full, ChipS.at]
  | Sum.inr (o, d), hp =>
    simp only [Prim.ok] at hp
    have he : c.prim (.pr o d) = { c with ops := c.ops + 1, left := lf, cells := progN (fun k => 255) o (tx d) d.length c.cells } := by
      show c.program o (tx d) = _
      unfold ChipS.program
      have : (tx d).size = d.length := by simp [tx, ByteArray.size]
      rw [this, if_neg (by omega), hb]
      simp [ChipS.done]
    rw [he]
    refine ⟨by simp [progN_length, hl], ?_, rfl, hd, rfl, rfl, hlf⟩
    funext i
    simp only [ChipS.at]
    rw [progN_getD _ _ _ _ _ _ (by omega)]
    simp only [Prim.full, and_full, ChipS.at]
    rfl
theorem prim_torn {c : ChipS} (hd : c.dead = false) (hl : c.cells.length = 1024) (ha : c.armed = true) (h0 : ¬ 0 < c.left) (p : Prim) (hp : p.ok) :
    (c.prim p).cells.length = 1024 ∧ (c.prim p).at = p.tornF c.mask c.at ∧ (c.prim p).ops = c.ops + 1 ∧ (c.prim p).dead = true := by
  have hb : c.begins = ({ c with ops := c.ops + 1, dead := true }, true, true) := by
    unfold ChipS.begins
    rw [hd, ha]; simp [h0]
  have hdn : ∀ k, ({ c with ops := c.ops + 1, dead := true } : ChipS).done k true = c.mask k := by
    intro k; unfold ChipS.done ChipS.mask; simp
  match p, hp with
  | Sum.inl s, hp =>
    simp only [Prim.ok] at hp
    have he : c.prim (.er s) = { c with ops := c.ops + 1, dead := true, cells := eraseN c.mask (s * 256) 256 c.cells } := by
      show c.erase s = _
      unfold ChipS.erase
      rw [if_neg (by omega), hb]
      simp [hdn]
    rw [he]
    refine ⟨by simp [eraseN_length, hl], ?_, rfl, rfl⟩
    funext i
    simp only [ChipS.at]
    rw [eraseN_getD _ _ _ _ _ (by omega)]
    simp only [Prim.tornF, ChipS.at]
  | Sum.inr (o, d), hp =>
    simp only [Prim.ok] at hp
    have he : c.prim (.pr o d) = { c with ops := c.ops + 1, dead := true, cells := progN c.mask o (tx d) d.length c.cells } := by
      show c.program o (tx d) = _
      unfold ChipS.program
      have : (tx d).size = d.length := by simp [tx, ByteArray.size]
      rw [this, if_neg (by omega), hb]
      simp [hdn]
    rw [he]
    refine ⟨by simp [progN_length, hl], ?_, rfl, rfl⟩
    funext i
    simp only [ChipS.at]
    rw [progN_getD _ _ _ _ _ _ (by omega)]
    simp only [Prim.tornF, ChipS.at]
    rfl
theorem prims_dead {c : ChipS} (hd : c.dead = true) (l : List Prim) : c.prims l = c := by
  induction l with
  | nil => rfl
  | cons p l ih =>
    rw [ChipS.prims_cons]
    have hb : c.begins = (c, false, false) := by unfold ChipS.begins; rw [hd]; rfl
    have : c.prim p = c := by
      match p with
      | Sum.inl s =>
        show c.erase s = c
        unfold ChipS.erase
        split
        · rfl
        · rw [hb]; simp
      | Sum.inr (o, d) =>
        show c.program o (tx d) = c
        unfold ChipS.program
        split
        · rfl
        · rw [hb]; simp
    rw [this]; exact ih
/-- Operations while the power may be cut. -/
theorem prims_cut {c : ChipS} (hd : c.dead = false) (hl : c.cells.length = 1024) (ha : c.armed = true) (n : Nat) (hn : c.left = n) (l : List Prim) (hok : ∀ p ∈ l, p.ok) :
    (c.prims l).cells.length = 1024 ∧
    (l.length ≤ n → (c.prims l).dead = false ∧ (c.prims l).at = fulls l c.at ∧ (c.prims l).ops = c.ops + l.length) ∧
    (n < l.length → (c.prims l).dead = true ∧ (c.prims l).ops = c.ops + n + 1 ∧ ∃ pre p post, l = pre ++ p :: post ∧ pre.length = n ∧ (c.prims l).at = p.tornF c.mask (fulls pre c.at)) := by
  induction l generalizing c n with
  | nil => exact ⟨hl, fun _ => ⟨hd, rfl, by simp [ChipS.prims_nil]⟩, fun h => by simp at h⟩
  | cons p l ih =>
    rw [ChipS.prims_cons]
    cases n with
    | zero =>
      obtain ⟨h1, h2, h3, h4⟩ := prim_torn hd hl ha (by omega) p (hok p (by simp))
      rw [prims_dead h4]
      refine ⟨h1, fun h => by simp at h, fun _ => ⟨h4, by rw [h3]; simp, [], p, l, rfl, rfl, h2⟩⟩
    | succ n =>
      obtain ⟨h1, h2, h3, h4, h5, h6, h7⟩ := prim_full hd hl (Or.inr (by omega)) p (hok p (by simp))
      have hm : (c.prim p).mask = c.mask := by funext i; unfold ChipS.mask; rw [h6]
      obtain ⟨k1, k2, k3⟩ := ih h4 h1 (by rw [h5]; exact ha) n (by rw [h7 ha]; omega) (fun q hq => hok q (by simp [hq]))
      refine ⟨k1, fun h => ?_, fun h => ?_⟩
      · obtain ⟨a1, a2, a3⟩ := k2 (by simp at h; omega)
        exact ⟨a1, by rw [a2, h2]; rfl, by rw [a3, h3, List.length_cons]; omega⟩
      · obtain ⟨a1, a2, pre, q, post, e1, e2, e3⟩ := k3 (by simp at h; omega)
        exact ⟨a1, by rw [a2, h3]; omega, p :: pre, q, post, by rw [e1]; rfl, by simp [e2], by rw [e3, h2, hm]; rfl⟩
end Go.Proofs.YtfapgfpidhbhaabDoor

namespace Go.Proofs.YtfapgfpidhbhaabDoor
open Go.RowKit

def prevT (t : Nat) : Nat := if t = 0 then 2 else t - 1
theorem next_prev (t : Nat) (h : t < 3) : nextT (prevT t) = t ∧ prevT (nextT t) = t ∧ prevT t < 3 ∧ nextT t < 3 := by
  unfold nextT prevT
  (repeat' split) <;> omega
theorem turnB_some {b : UInt8} {t : Nat} (h : turnB b = some t) : b = turnV t ∧ t < 3 := by
  unfold turnB at h
  split at h
  · rename_i e; simp only [Option.some.injEq] at h; subst h; exact ⟨e, by omega⟩
  · split at h
    · rename_i e; simp only [Option.some.injEq] at h; subst h; exact ⟨e, by omega⟩
    · split at h
      · rename_i e; simp only [Option.some.injEq] at h; subst h; exact ⟨e, by omega⟩
      · cases h
theorem turnB_none : turnB 255 = none := by decide
theorem pageM_first {l : List UInt8} {t : Nat} {h : HeldS} (e : pageM l = some (t, h)) : l.getD 0 0 = turnV t := by
  unfold pageM at e
  split at e
  · cases e
  · rename_i t' ht
    cases hd : decPage l with
    | none => rw [hd] at e; cases e
    | some x =>
      rw [hd] at e
      simp only [Option.map_some, Option.some.injEq, Prod.mk.injEq] at e
      rw [← e.1]; exact (turnB_some ht).1
theorem pageM_blank {l : List UInt8} (e : l.getD 0 0 = 255) : pageM l = none := by
  unfold pageM; rw [e, turnB_none]
/-- bits of a turn that are done or not -/
theorem turn_or (t : Nat) (ht : t < 3) (x : UInt8) : turnV t ||| x = turnV t ∨ turnV t ||| x = 255 := by
  have key : ∀ n : Fin 256, ∀ k : Fin 3, (turnV k.val).toNat ||| n.val = (turnV k.val).toNat ∨ (turnV k.val).toNat ||| n.val = 255 := by decide +kernel
  rcases key ⟨x.toNat, x.toNat_lt⟩ ⟨t, ht⟩ with h | h
  · left; apply UInt8.toNat_inj.1; rw [UInt8.toNat_or]; exact h
  · right; apply UInt8.toNat_inj.1; rw [UInt8.toNat_or]; exact h
theorem full_or (x : UInt8) : 255 ||| x = 255 := by
  have : (255 : UInt8) = -1 := rfl
  rw [this]; exact UInt8.neg_one_or
/-- What a chip holds on which a device lies: page s counts, of turn t; the other page is of the turn ahead of it, or of none. -/
structure OnAt (cells : List UInt8) (s t : Nat) (h : HeldS) : Prop where
  len : cells.length = 1024
  mark : markedM cells = true
  s2 : s < 2
  t3 : t < 3
  ok : h.ok
  page : pageM (sectorOf cells s) = some (t, h)
  other : cells.getD ((1 - s) * 256) 0 = 255 ∨ cells.getD ((1 - s) * 256) 0 = turnV (prevT t)
def On (cells : List UInt8) (h : HeldS) : Prop := ∃ s t, OnAt cells s t h
theorem OnAt.newest {cells : List UInt8} {s t : Nat} {h : HeldS} (o : OnAt cells s t h) : newestM cells = some (s, t, h) := by
  have hp := o.page
  obtain ⟨n1, n2, n3, n4⟩ := next_prev t o.t3
  have ho : pageM (sectorOf cells (1 - s)) = none ∨ ∃ h', pageM (sectorOf cells (1 - s)) = some (prevT t, h') := by
    have hs := o.s2
    have hf : (sectorOf cells (1 - s)).getD 0 0 = cells.getD ((1 - s) * 256) 0 := by
      have h := sector_getD cells (1 - s) 0 (by omega)
      rw [Nat.add_zero] at h; exact h
    rcases o.other with e | e
    · exact Or.inl (pageM_blank (hf.trans e))
    · cases hq : pageM (sectorOf cells (1 - s)) with
      | none => exact Or.inl rfl
      | some q =>
        obtain ⟨t', h'⟩ := q
        have h1 := pageM_first hq
        have h2 := pageM_lt hq
        rw [hf, e] at h1
        have : prevT t = t' := by
          have a := turn_back (prevT t) n3
          rw [h1, turn_back t' h2] at a
          exact (Option.some.inj a).symm
        exact Or.inr ⟨h', by rw [this]⟩
  have hs01 : s = 0 ∨ s = 1 := by have := o.s2; omega
  have hne : ¬ prevT t = nextT t := by unfold prevT nextT; have := o.t3; (repeat' split) <;> omega
  rcases hs01 with rfl | rfl
  · unfold newestM
    rw [hp, show sectorOf cells 1 = sectorOf cells (1 - 0) from rfl]
    rcases ho with e | ⟨h', e⟩
    · rw [e]
    · rw [e]; simp [hne]
  · unfold newestM
    rw [hp, show sectorOf cells 0 = sectorOf cells (1 - 1) from rfl]
    rcases ho with e | ⟨h', e⟩
    · rw [e]
    · rw [e]; simp [n1]
theorem On.load {cells : List UInt8} {h : HeldS} (o : On cells h) : loadM cells = some h ∧ h.ok := by
  obtain ⟨s, t, o⟩ := o
  refine ⟨?_, o.ok⟩
  unfold loadM; rw [o.mark, o.newest]; rfl

theorem split_write {pre post : List Prim} {p q : Prim} {s o : Nat} {L : List UInt8} (h : (Prim.er s :: (piecesM o L ++ [q])) = pre ++ p :: post) :
    (pre = [] ∧ p = .er s) ∨ (∃ k, k < (L.length + 7) / 8 ∧ pre = .er s :: piecesN o L k ∧ p = pieceM o L k) ∨ (pre = .er s :: piecesM o L ∧ p = q) := by
  cases pre with
  | nil => left; simp at h; exact ⟨rfl, h.1.symm⟩
  | cons a pre =>
    right
    simp only [List.cons_append, List.cons.injEq] at h
    obtain ⟨rfl, h⟩ := h
    have hl : (piecesM o L).length = (L.length + 7) / 8 := by simp [piecesM, piecesN]
    by_cases hk : pre.length < (L.length + 7) / 8
    · left
      refine ⟨pre.length, hk, ?_, ?_⟩
      · congr 1
        have e1 : (piecesM o L ++ [q]).take pre.length = pre := by rw [h]; simp
        rw [List.take_append_of_le_length (by omega)] at e1
        have : (piecesM o L).take pre.length = piecesN o L pre.length := by
          unfold piecesM piecesN
          rw [← List.map_take, List.take_range, Nat.min_eq_left (by omega)]
        exact e1.symm.trans this
      · have e2 : (piecesM o L ++ [q])[pre.length]? = some p := by rw [h]; simp
        rw [List.getElem?_append_left (by omega)] at e2
        unfold piecesM piecesN at e2
        simp only [List.getElem?_map, List.getElem?_range hk, Option.map_some, Option.some.injEq] at e2
        exact e2.symm
    · right
      have hlen := congrArg List.length h
      simp only [List.length_append, List.length_cons, List.length_nil] at hlen
      have e0 : post = [] := List.length_eq_zero_iff.1 (by omega)
      subst e0
      have := List.append_inj' h rfl
      refine ⟨by rw [this.1], ?_⟩
      have e := this.2
      simp only [List.cons.injEq, and_true] at e
      exact e.symm
end Go.Proofs.YtfapgfpidhbhaabDoor

namespace Go.Proofs.YtfapgfpidhbhaabDoor
open Go.RowKit

/-- A device's chip of which the other page alone was touched, with no turn on it (or the one that it had), holds what it held. -/
theorem OnAt.keep {c c' : ChipS} {s t : Nat} {h : HeldS} (o : OnAt c.cells s t h) (hl : c'.cells.length = 1024) (hout : ∀ i, ¬ ((1 - s) * 256 ≤ i ∧ i < (1 - s) * 256 + 256) → c'.at i = c.at i)
    (hf : c'.at ((1 - s) * 256) = 255 ∨ c'.at ((1 - s) * 256) = turnV (prevT t)) : OnAt c'.cells s t h := by
  have hs := o.s2
  have e := sector_same c c' s o.len hl (by omega) (fun j hj => hout _ (by omega))
  refine ⟨hl, ?_, hs, o.t3, o.ok, by rw [e]; exact o.page, hf⟩
  rw [marked_at, hout _ (by omega), ← marked_at]; exact o.mark
theorem first_of {c : ChipS} {s t : Nat} {h : HeldS} (o : OnAt c.cells s t h) : c.at (s * 256) = turnV t := by
  have h1 := pageM_first o.page
  have h2 := sector_getD c.cells s 0 (by omega)
  rw [Nat.add_zero] at h2
  exact h2.symm.trans h1
theorem OnAt.wrote {c c' : ChipS} {s t : Nat} {h x : HeldS} (o : OnAt c.cells s t h) (hx : x.ok) (hl : c'.cells.length = 1024) (he : c'.at = fulls (writeOps (1 - s) (nextT t) x) c.at) : OnAt c'.cells (1 - s) (nextT t) x := by
  have hs := o.s2
  obtain ⟨n1, n2, n3, n4⟩ := next_prev t o.t3
  have hL := hx.len
  have hw := sector_write c c' (1 - s) (nextT t) x (by omega) hl (by omega) he
  have hout : ∀ i, ¬ ((1 - s) * 256 ≤ i ∧ i < (1 - s) * 256 + 256) → c'.at i = c.at i := by
    intro i hi; rw [he, write_full _ _ _ _ (by omega), if_neg hi]
  refine ⟨hl, ?_, by omega, n4, hx, by rw [hw]; exact page_text _ _ hx n4, Or.inr ?_⟩
  · rw [marked_at, hout _ (by omega), ← marked_at]; exact o.mark
  · rw [n2, show (1 - (1 - s)) = s by omega]
    show c'.at (s * 256) = turnV t
    rw [hout _ (by omega)]; exact first_of o
theorem fulls_nil (f : Nat → UInt8) : fulls [] f = f := rfl
/-- All but the turn: nothing but the other page is touched, and its first byte stays blank. -/
theorem body_at (s : Nat) (L : List UInt8) (k : Nat) (f : Nat → UInt8) (hL : L.length ≤ 256) (i : Nat) (h : ¬ (s * 256 ≤ i ∧ i < s * 256 + 256)) : fulls (Prim.er s :: piecesN (s * 256) L k) f i = f i := by
  rw [show (Prim.er s :: piecesN (s * 256) L k) = [Prim.er s] ++ piecesN (s * 256) L k from rfl, fulls_append, pieces_full, if_neg (by omega)]
  show (Prim.er s).full f i = f i
  simp only [Prim.full]; rw [if_neg h]
theorem body_first (s : Nat) (L : List UInt8) (k : Nat) (f : Nat → UInt8) (h0 : L.getD 0 0 = 255) : fulls (Prim.er s :: piecesN (s * 256) L k) f (s * 256) = 255 := by
  rw [show (Prim.er s :: piecesN (s * 256) L k) = [Prim.er s] ++ piecesN (s * 256) L k from rfl, fulls_append, pieces_full]
  have e : fulls [Prim.er s] f (s * 256) = 255 := by
    show (Prim.er s).full f (s * 256) = 255
    simp only [Prim.full]; rw [if_pos (by omega)]
  rw [e, Nat.sub_self, h0]
  split <;> rfl
set_option maxRecDepth 20000 in
theorem out_piece {s i k L : Nat} (h : ¬ (s * 256 ≤ i ∧ i < s * 256 + 256)) (hL : L ≤ 256) : ¬ (s * 256 + 8 * k ≤ i ∧ i < s * 256 + 8 * k + min 8 (L - 8 * k)) := by omega
set_option maxRecDepth 20000 in
theorem out_turn {s i : Nat} (h : ¬ (s * 256 ≤ i ∧ i < s * 256 + 256)) : ¬ (s * 256 ≤ i ∧ i < s * 256 + 1) := by omega
/-- Save, with the power cut at any operation, in any bits: what was held, or what is to be held. -/
theorem save_cut {c : ChipS} {h0 h : HeldS} (o : On c.cells h0) (hk : h.ok) (hd : c.dead = false) (ha : c.armed = true) (n : Nat) (hn : c.left = n) :
    (On (c.prims (saveOps c.cells h)).cells h ∨ (On (c.prims (saveOps c.cells h)).cells h0 ∧ (c.prims (saveOps c.cells h)).dead = true)) ∧
    ∃ m : Nat, m ≤ 64 ∧ (c.prims (saveOps c.cells h)).ops = c.ops + m ∧ ((c.prims (saveOps c.cells h)).dead = true ↔ n < m) ∧ m ≤ n + 1 := by
  obtain ⟨s, t, o⟩ := o
  have hs := o.s2
  obtain ⟨n1, n2, n3, n4⟩ := next_prev t o.t3
  have hL := hk.len
  have hso : saveOps c.cells h = writeOps (1 - s) (nextT t) h := by unfold saveOps; rw [o.newest]
  rw [hso]
  obtain ⟨k1, k2, k3⟩ := prims_cut hd o.len ha n hn (writeOps (1 - s) (nextT t) h) (writeOps_ok _ _ _ (by omega) (by omega))
  have hwl := writeOps_len (1 - s) (nextT t) h hk
  generalize hc' : c.prims (writeOps (1 - s) (nextT t) h) = c' at *
  by_cases hle : (writeOps (1 - s) (nextT t) h).length ≤ n
  · obtain ⟨a1, a2, a3⟩ := k2 hle
    refine ⟨Or.inl ⟨1 - s, nextT t, o.wrote hk k1 a2⟩, _, by omega, a3, ?_, by omega⟩
    rw [a1]; simp; omega
  · obtain ⟨a1, a2, pre, p, post, e1, e2, e3⟩ := k3 (by omega)
    refine ⟨?_, n + 1, by omega, by rw [a2]; omega, ?_, by omega⟩
    · rcases split_write e1 with ⟨rfl, rfl⟩ | ⟨k, hkk, rfl, rfl⟩ | ⟨rfl, rfl⟩
      · right
        refine ⟨⟨s, t, o.keep k1 ?_ ?_⟩, a1⟩
        · intro i hi; rw [e3, fulls_nil]; simp only [Prim.tornF]; rw [if_neg hi]
        · rw [e3, fulls_nil]; simp only [Prim.tornF]; rw [if_pos (by omega)]
          have hoth : c.at ((1 - s) * 256) = 255 ∨ c.at ((1 - s) * 256) = turnV (prevT t) := o.other
          rcases hoth with e | e
          · rw [e]; exact Or.inl (full_or _)
          · rw [e]; exact (turn_or _ n3 _).symm
      · right
        refine ⟨⟨s, t, o.keep k1 ?_ (Or.inl ?_)⟩, a1⟩
        · intro i hi
          rw [e3]; simp only [pieceM, Prim.tornF]
          rw [List.length_take, List.length_drop, if_neg (out_piece hi (by omega))]
          exact body_at (1 - s) (encM h) k c.at (by omega) i hi
        · have hb := body_first (1 - s) (encM h) k c.at (by rfl)
          rw [e3]; simp only [pieceM, Prim.tornF]
          rw [hb]
          split
          · rename_i hh
            have hk0 : k = 0 := by omega
            subst hk0
            simp only [Nat.mul_zero, Nat.add_zero, List.drop_zero, Nat.sub_self]
            have : ((encM h).take 8).getD 0 0 = 255 := by simp [encM]
            rw [this, full_or]; rfl
          · rfl
      · have hb := body_first (1 - s) (encM h) ((encM h).length + 7) c.at (by rfl)
        have hb2 : fulls (Prim.er (1 - s) :: piecesM ((1 - s) * 256) (encM h)) c.at ((1 - s) * 256) = 255 := body_first (1 - s) (encM h) (((encM h).length + 7) / 8) c.at (by rfl)
        have hout : ∀ i, ¬ ((1 - s) * 256 ≤ i ∧ i < (1 - s) * 256 + 256) → c'.at i = c.at i := by
          intro i hi
          rw [e3]; simp only [Prim.tornF, List.length_singleton]
          rw [if_neg (out_turn hi)]
          exact body_at (1 - s) (encM h) (((encM h).length + 7) / 8) c.at (by omega) i hi
        have hfirst : c'.at ((1 - s) * 256) = turnV (nextT t) ∨ c'.at ((1 - s) * 256) = 255 := by
          rw [e3]; simp only [Prim.tornF, List.length_singleton]
          rw [if_pos (by omega), hb2, Nat.sub_self, full_and]
          exact turn_or _ n4 _
        rcases hfirst with e | e
        · left
          refine ⟨1 - s, nextT t, o.wrote hk k1 ?_⟩
          funext i
          rw [writeOps, show (Prim.er (1 - s) :: (piecesM ((1 - s) * 256) (encM h) ++ [.pr ((1 - s) * 256) [turnV (nextT t)]])) = (Prim.er (1 - s) :: piecesM ((1 - s) * 256) (encM h)) ++ [.pr ((1 - s) * 256) [turnV (nextT t)]] from rfl, fulls_append]
          show c'.at i = (Prim.pr ((1 - s) * 256) [turnV (nextT t)]).full (fulls (Prim.er (1 - s) :: piecesM ((1 - s) * 256) (encM h)) c.at) i
          simp only [Prim.full, List.length_singleton]
          by_cases hi : i = (1 - s) * 256
          · subst hi
            rw [if_pos (by omega), hb2, Nat.sub_self, full_and, e]; rfl
          · rw [if_neg (by omega), e3]
            simp only [Prim.tornF, List.length_singleton]
            rw [if_neg (by omega)]
        · right
          exact ⟨⟨s, t, o.keep k1 hout (Or.inl e)⟩, a1⟩
    · rw [a1]; simp
end Go.Proofs.YtfapgfpidhbhaabDoor

namespace Go.Proofs.YtfapgfpidhbhaabDoor
open Go.RowKit

theorem split_app {α : Type} {a b pre post : List α} {p : α} (h : a ++ b = pre ++ p :: post) : (∃ post', a = pre ++ p :: post') ∨ ∃ pre', pre = a ++ pre' ∧ b = pre' ++ p :: post := by
  rcases List.append_eq_append_iff.1 h with ⟨x, h1, h2⟩ | ⟨x, h1, h2⟩
  · exact Or.inr ⟨x, h1, h2⟩
  · cases x with
    | nil => right; exact ⟨[], by simpa using h1.symm, by simpa using h2.symm⟩
    | cons y x =>
      simp only [List.cons_append, List.cons.injEq] at h2
      left; exact ⟨x, by rw [h1, h2.1]⟩
theorem none_mark {c : ChipS} (h : ¬ c.at 512 = 254) : loadM c.cells = none := by
  unfold loadM; rw [marked_at, decide_eq_false h]; rfl
theorem none_pages {c : ChipS} (h0 : c.at 0 = 255) (h1 : c.at 256 = 255) : loadM c.cells = none := by
  have p0 : pageM (sectorOf c.cells 0) = none := pageM_blank (by have h := sector_getD c.cells 0 0 (by omega); rw [h]; exact h0)
  have p1 : pageM (sectorOf c.cells 1) = none := pageM_blank (by have h := sector_getD c.cells 1 0 (by omega); rw [h]; exact h1)
  have : newestM c.cells = none := by unfold newestM; rw [p0, p1]
  unfold loadM; rw [this]; simp
theorem mark_or (x : UInt8) : (254 : UInt8) ||| x = 254 ∨ (254 : UInt8) ||| x = 255 := turn_or 0 (by omega) x
theorem er_full (s : Nat) (f : Nat → UInt8) (i : Nat) : (Prim.er s).full f i = if s * 256 ≤ i ∧ i < s * 256 + 256 then 255 else f i := rfl
theorem er_torn (s : Nat) (T f : Nat → UInt8) (i : Nat) : (Prim.er s).tornF T f i = if s * 256 ≤ i ∧ i < s * 256 + 256 then f i ||| T (i - s * 256) else f i := rfl
set_option maxRecDepth 20000 in
/-- The page is written, and the mark is laid: a device. -/
theorem on_created {c' : ChipS} {h : HeldS} (hk : h.ok) (hl : c'.cells.length = 1024) (g : Nat → UInt8) (hg1 : g 256 = 255) (he : ∀ i, c'.at i = if i = 512 then 254 else fulls (writeOps 0 0 h) g i) : On c'.cells h := by
  have hL := hk.len
  refine ⟨0, 0, hl, by rw [marked_at, he, if_pos rfl]; rfl, by omega, by omega, hk, ?_, Or.inl ?_⟩
  · have e : sectorOf c'.cells 0 = pageText 0 h := by
      apply list_ext
      · rw [sector_len _ _ hl (by omega), pageText_len _ _ (by omega)]
      · intro i hi
        rw [sector_len _ _ hl (by omega)] at hi
        rw [sector_getD _ _ _ hi]
        show c'.at (0 * 256 + i) = _
        rw [he, if_neg (by omega), write_full _ _ _ _ (by omega), if_pos (by omega)]
        match i with
        | 0 => simp [pageText]
        | j + 1 =>
          rw [if_neg (by omega), show 0 * 256 + (j + 1) - 0 * 256 = j + 1 by omega]
          simp only [pageText, encM, List.length_cons, List.getD_cons_succ]
          split
          · rw [List.getD_eq_getElem?_getD, List.getD_eq_getElem?_getD, List.getElem?_append_left (by omega)]
          · rw [List.getD_eq_getElem?_getD, List.getElem?_append_right (by omega), List.getElem?_replicate, if_pos (by simp only [encM, List.length_cons] at hL; omega)]; rfl
    rw [e]; exact page_text 0 h hk (by omega)
  · show c'.at ((1 - 0) * 256) = 255
    rw [he, if_neg (by omega), write_full _ _ _ _ (by omega), if_neg (by omega)]
    exact hg1
theorem create_len (cells : List UInt8) (h : HeldS) (hk : h.ok) : (createOps cells h).length ≤ 64 ∧ ∀ p ∈ createOps cells h, p.ok := by
  have := writeOps_len 0 0 h hk
  have hL := hk.len
  refine ⟨by unfold createOps; split <;> simp <;> omega, ?_⟩
  intro p hp
  unfold createOps at hp
  simp only [List.mem_append, List.mem_cons, List.not_mem_nil, or_false] at hp
  rcases hp with hp | (rfl | rfl | rfl) | hp | rfl
  · split at hp
    · simp only [List.mem_singleton] at hp; subst hp; simp [Prim.ok]
    · cases hp
  · simp [Prim.ok]
  · simp [Prim.ok]
  · simp [Prim.ok]
  · exact writeOps_ok 0 0 h (by omega) (by omega) p hp
  · simp [Prim.ok]
set_option maxRecDepth 20000 in
/-- Format, with the power cut at any operation, in any bits: no device, or the one that is to be. -/
theorem create_cut {c : ChipS} {h : HeldS} (hnone : loadM c.cells = none) (hlen : c.cells.length = 1024) (hk : h.ok) (hd : c.dead = false) (ha : c.armed = true) (n : Nat) (hn : c.left = n) :
    (On (c.prims (createOps c.cells h)).cells h ∨ (loadM (c.prims (createOps c.cells h)).cells = none ∧ (c.prims (createOps c.cells h)).dead = true)) ∧
    ∃ m : Nat, m ≤ 64 ∧ (c.prims (createOps c.cells h)).ops = c.ops + m ∧ ((c.prims (createOps c.cells h)).dead = true ↔ n < m) ∧ m ≤ n + 1 := by
  obtain ⟨hl64, hok⟩ := create_len c.cells h hk
  have hL := hk.len
  obtain ⟨k1, k2, k3⟩ := prims_cut hd hlen ha n hn (createOps c.cells h) hok
  generalize hc' : c.prims (createOps c.cells h) = c' at *
  obtain ⟨M, hM⟩ : ∃ M, M = (if markedM c.cells then [Prim.er 2] else []) := ⟨_, rfl⟩
  have hco : createOps c.cells h = (M ++ [Prim.er 0, .er 1, .er 2]) ++ (writeOps 0 0 h ++ [.pr 512 [254]]) := by rw [hM]; unfold createOps; rw [List.append_assoc]
  have hM512 : ¬ fulls M c.at 512 = 254 := by
    rw [hM]
    split
    · show ¬ (Prim.er 2).full c.at 512 = 254
      rw [er_full, if_pos (by omega)]; decide
    · rename_i hm
      rw [fulls_nil]
      intro e
      apply hm
      rw [marked_at, e]; rfl
  have hA : ∀ i, i < 768 → fulls (M ++ [Prim.er 0, .er 1, .er 2]) c.at i = 255 := by
    intro i hi
    rw [fulls_append]
    show (Prim.er 2).full ((Prim.er 1).full ((Prim.er 0).full _)) i = 255
    simp only [er_full]
    (repeat' split) <;> first | rfl | omega
  by_cases hle : (createOps c.cells h).length ≤ n
  · obtain ⟨a1, a2, a3⟩ := k2 hle
    refine ⟨Or.inl ?_, _, hl64, a3, ?_, by omega⟩
    · refine on_created hk k1 (fulls (M ++ [Prim.er 0, .er 1, .er 2]) c.at) (hA 256 (by omega)) ?_
      intro i
      rw [a2, hco, fulls_append, fulls_append]
      show (Prim.pr 512 [254]).full _ i = _
      simp only [Prim.full, List.length_singleton]
      by_cases e : i = 512
      · subst e
        rw [if_pos (by omega), if_pos rfl, write_full _ _ _ _ (by omega), if_neg (by omega), hA 512 (by omega)]; rfl
      · rw [if_neg (by omega), if_neg e]
    · rw [a1]; simp; omega
  · obtain ⟨a1, a2, pre, p, post, e1, e2, e3⟩ := k3 (by omega)
    refine ⟨?_, n + 1, by omega, by rw [a2]; omega, by rw [a1]; simp, by omega⟩
    rw [hco] at e1
    rcases split_app e1 with ⟨post', h1⟩ | ⟨pre', hp, h1⟩
    · right
      refine ⟨?_, a1⟩
      rcases split_app h1 with ⟨post2, h2⟩ | ⟨pre2, hp2, h2⟩
      · -- the mark is taken away
        rw [hM] at h2
        split at h2
        · rename_i hm
          have e0 : pre = [] ∧ p = .er 2 := by
            cases pre with
            | nil => simp at h2; exact ⟨rfl, h2.1.symm⟩
            | cons x pre => simp at h2
          obtain ⟨rfl, rfl⟩ := e0
          rw [fulls_nil] at e3
          have m0 : c.at 512 = 254 := by rw [marked_at] at hm; simpa using hm
          have hx : c'.at 512 = 254 ∨ c'.at 512 = 255 := by
            rw [e3, er_torn, if_pos (by omega), m0]; exact mark_or _
          rcases hx with e | e
          · have hnw : newestM c.cells = none := by
              unfold loadM at hnone; rw [if_pos hm] at hnone
              cases hq : newestM c.cells with
              | none => rfl
              | some q => rw [hq] at hnone; cases hnone
            have s0 := sector_same c c' 0 hlen k1 (by omega) (by intro j hj; rw [e3, er_torn, if_neg (by omega)])
            have s1 := sector_same c c' 1 hlen k1 (by omega) (by intro j hj; rw [e3, er_torn, if_neg (by omega)])
            have : newestM c'.cells = none := by
              unfold newestM at hnw ⊢
              rw [s0, s1]; exact hnw
            unfold loadM; rw [this]; simp
          · exact none_mark (by rw [e]; decide)
        · simp at h2
      · subst hp2
        rcases pre2 with _ | ⟨x, pre2⟩
        · simp only [List.nil_append, List.cons.injEq] at h2
          rw [← h2.1, List.append_nil] at e3
          exact none_mark (by rw [e3, er_torn, if_neg (by omega)]; exact hM512)
        · simp only [List.cons_append, List.cons.injEq] at h2
          obtain ⟨rfl, h2⟩ := h2
          rcases pre2 with _ | ⟨x, pre2⟩
          · simp only [List.nil_append, List.cons.injEq] at h2
            rw [← h2.1, fulls_append] at e3
            refine none_mark ?_
            rw [e3, er_torn, if_neg (by omega)]
            show ¬ (Prim.er 0).full (fulls M c.at) 512 = 254
            rw [er_full, if_neg (by omega)]; exact hM512
          · simp only [List.cons_append, List.cons.injEq] at h2
            obtain ⟨rfl, h2⟩ := h2
            rcases pre2 with _ | ⟨x, pre2⟩
            · simp only [List.nil_append, List.cons.injEq] at h2
              rw [← h2.1, fulls_append] at e3
              refine none_pages ?_ ?_
              · rw [e3, er_torn, if_neg (by omega)]
                show (Prim.er 1).full ((Prim.er 0).full (fulls M c.at)) 0 = 255
                rw [er_full, if_neg (by omega), er_full, if_pos (by omega)]
              · rw [e3, er_torn, if_neg (by omega)]
                show (Prim.er 1).full ((Prim.er 0).full (fulls M c.at)) 256 = 255
                rw [er_full, if_pos (by omega)]
            · simp at h2
    · subst hp
      rw [fulls_append] at e3
      generalize fulls (M ++ [Prim.er 0, .er 1, .er 2]) c.at = g at *
      rcases split_app h1 with ⟨post2, h2⟩ | ⟨pre2, hp2, h2⟩
      · right
        refine ⟨none_mark ?_, a1⟩
        rcases split_write (show (Prim.er 0 :: (piecesM (0 * 256) (encM h) ++ [.pr (0 * 256) [turnV 0]])) = pre' ++ p :: post2 from h2) with ⟨rfl, rfl⟩ | ⟨k, hkk, rfl, rfl⟩ | ⟨rfl, rfl⟩
        · rw [e3, fulls_nil, er_torn, if_neg (by omega), hA 512 (by omega)]; decide
        · rw [e3]; simp only [pieceM, Prim.tornF]
          rw [List.length_take, List.length_drop, if_neg (by omega), body_at 0 (encM h) k g (by omega) 512 (by omega), hA 512 (by omega)]; decide
        · rw [e3]; simp only [Prim.tornF, List.length_singleton]
          rw [if_neg (by omega)]
          have := body_at 0 (encM h) (((encM h).length + 7) / 8) g (by omega) 512 (by omega)
          show ¬ fulls (Prim.er 0 :: piecesN (0 * 256) (encM h) (((encM h).length + 7) / 8)) g 512 = 254
          rw [this, hA 512 (by omega)]; decide
      · subst hp2
        have e0 : pre2 = [] ∧ p = .pr 512 [254] := by
          cases pre2 with
          | nil => simp at h2; exact ⟨rfl, h2.1.symm⟩
          | cons x pre => simp at h2
        obtain ⟨rfl, rfl⟩ := e0
        rw [List.append_nil] at e3
        have hx : c'.at 512 = 254 ∨ c'.at 512 = 255 := by
          rw [e3]; simp only [Prim.tornF, List.length_singleton]
          rw [if_pos (by omega), write_full _ _ _ _ (by omega), if_neg (by omega), hA 512 (by omega), full_and]
          exact mark_or _
        rcases hx with e | e
        · left
          refine on_created hk k1 g (hA 256 (by omega)) ?_
          intro i
          by_cases hi : i = 512
          · subst hi; rw [if_pos rfl]; exact e
          · rw [if_neg hi, e3]; simp only [Prim.tornF, List.length_singleton]
            rw [if_neg (by omega)]
        · right
          exact ⟨none_mark (by rw [e]; decide), a1⟩
end Go.Proofs.YtfapgfpidhbhaabDoor
