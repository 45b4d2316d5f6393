import Derived.Test.YtpfdfpeomofabaaDoorChips
import Derived.Test.YtpfdfpeomofabaaDoorUns
namespace Go.Proofs.YtpfdfpeomofabaaDoor
open Go.RowKit

def tx (l : List UInt8) : ByteArray := ⟨l.toArray⟩
/-- What a chip holds, sign by sign. -/
theorem set_getD (l : List UInt8) (k i : Nat) (x : UInt8) : (l.set k x).getD i 0 = if k = i ∧ k < l.length then x else l.getD i 0 := by
  rw [List.getD_eq_getElem?_getD, List.getElem?_set]
  by_cases h : k = i
  · subst h
    by_cases h2 : k < l.length
    · simp [h2]
    · simp [h2, List.getD_eq_getElem?_getD]
  · simp [h, List.getD_eq_getElem?_getD]
theorem progN_getD (f : Nat → UInt8) (o : Nat) (d : ByteArray) (k : Nat) (l : List UInt8) (i : Nat) (h : o + k ≤ l.length) :
    (progN f o d k l).getD i 0 = if o ≤ i ∧ i < o + k then l.getD i 0 &&& (d.data.toList.getD (i - o) 0 ||| ~~~ f (i - o)) else l.getD i 0 := by
  induction k with
  | zero => rw [if_neg (by omega)]; rfl
  | succ k ih =>
    have ih := ih (by omega)
    rw [progN, set_getD, progN_length]
    by_cases e : o + k = i
    · subst e
      rw [if_pos ⟨rfl, by omega⟩, if_pos (by omega), ih, if_neg (by omega), Nat.add_sub_cancel_left]
    · rw [if_neg (fun x => e x.1), ih]
      by_cases h1 : o ≤ i ∧ i < o + k
      · rw [if_pos h1, if_pos (by omega)]
      · rw [if_neg h1, if_neg (by omega)]
theorem eraseN_getD (f : Nat → UInt8) (o : Nat) (k : Nat) (l : List UInt8) (i : Nat) (h : o + k ≤ l.length) :
    (eraseN f o k l).getD i 0 = if o ≤ i ∧ i < o + k then l.getD i 0 ||| f (i - o) else l.getD i 0 := by
  induction k with
  | zero => rw [if_neg (by omega)]; rfl
  | succ k ih =>
    have ih := ih (by omega)
    rw [eraseN, set_getD, eraseN_length]
    by_cases e : o + k = i
    · subst e
      rw [if_pos ⟨rfl, by omega⟩, if_pos (by omega), ih, if_neg (by omega), Nat.add_sub_cancel_left]
    · rw [if_neg (fun x => e x.1), ih]
      by_cases h1 : o ≤ i ∧ i < o + k
      · rw [if_pos h1, if_pos (by omega)]
      · rw [if_neg h1, if_neg (by omega)]

/-- One operation of a chip. -/
abbrev Prim := Nat ⊕ (Nat × List UInt8)
abbrev Prim.er (s : Nat) : Prim := Sum.inl s
abbrev Prim.pr (o : Nat) (d : List UInt8) : Prim := Sum.inr (o, d)
def ChipS.prim (c : ChipS) : Prim → ChipS
  | Sum.inl s => c.erase s
  | Sum.inr (o, d) => c.program o (tx d)
def ChipS.prims (c : ChipS) (l : List Prim) : ChipS := l.foldl ChipS.prim c
theorem ChipS.prims_nil (c : ChipS) : c.prims [] = c := rfl
theorem ChipS.prims_cons (c : ChipS) (p : Prim) (l : List Prim) : c.prims (p :: l) = (c.prim p).prims l := rfl
theorem ChipS.prims_append (c : ChipS) (l m : List Prim) : c.prims (l ++ m) = (c.prims l).prims m := List.foldl_append ..
def Prim.ok : Prim → Prop
  | Sum.inl s => s < 4
  | Sum.inr (o, d) => 1 ≤ d.length ∧ d.length ≤ 8 ∧ o < 1024 ∧ o % 256 + d.length ≤ 256
/-- What an operation does in full, sign by sign. -/
def Prim.full (p : Prim) (f : Nat → UInt8) : Nat → UInt8 := fun i =>
  match p with
  | Sum.inl s => if s * 256 ≤ i ∧ i < s * 256 + 256 then 255 else f i
  | Sum.inr (o, d) => if o ≤ i ∧ i < o + d.length then f i &&& d.getD (i - o) 0 else f i
def fulls (l : List Prim) (f : Nat → UInt8) : Nat → UInt8 := l.foldl (fun g p => p.full g) f
theorem fulls_append (l m : List Prim) (f : Nat → UInt8) : fulls (l ++ m) f = fulls m (fulls l f) := List.foldl_append ..
def ChipS.at (c : ChipS) (i : Nat) : UInt8 := c.cells.getD i 0
structure Live (c : ChipS) : Prop where
  dead : c.dead = false
  armed : c.armed = false
  len : c.cells.length = 1024
theorem and_full (x y : UInt8) : x &&& (y ||| ~~~ 255) = x &&& y := by
  congr 1
  show y ||| 0 = y
  exact UInt8.or_zero
theorem or_full (x : UInt8) : x ||| 255 = 255 := by
  have : (255 : UInt8) = -1 := rfl
  rw [this]; exact UInt8.or_neg_one
theorem Live.prim {c : ChipS} (h : Live c) (p : Prim) (hp : p.ok) : Live (c.prim p) ∧ (c.prim p).at = p.full c.at ∧ (c.prim p).ops = c.ops + 1 := by
  have hb : c.begins = ({ c with ops := c.ops + 1 }, true, false) := by
    unfold ChipS.begins
    rw [h.dead, h.armed]; simp
  have hl := h.len
  match p, hp with
  | Sum.inl s, hp =>
    simp only [Prim.ok] at hp
    have he : c.prim (.er s) = { c with ops := c.ops + 1, cells := eraseN (fun k => 255) (s * 256) 256 c.cells } := by
      show c.erase s = _
      unfold ChipS.erase
      rw [if_neg (by omega), hb]
      simp [ChipS.done]
    rw [he]
    refine ⟨⟨h.dead, h.armed, by simp [eraseN_length, hl]⟩, ?_, rfl⟩
    funext i
    simp only [ChipS.at]
    rw [eraseN_getD _ _ _ _ _ (by omega)]
    simp only [Prim.full, or_full, ChipS.at]
  | Sum.inr (o, d), hp =>
    simp only [Prim.ok] at hp
    have he : c.prim (.pr o d) = { c with ops := c.ops + 1, cells := progN (fun k => 255) o (tx d) d.length c.cells } := by
      show c.program o (tx d) = _
      unfold ChipS.program
      have : (tx d).size = d.length := by simp [tx, ByteArray.size]
      rw [this, if_neg (by omega), hb]
      simp [ChipS.done]
    rw [he]
    refine ⟨⟨h.dead, h.armed, by simp [progN_length, hl]⟩, ?_, rfl⟩
    funext i
    simp only [ChipS.at]
    rw [progN_getD _ _ _ _ _ _ (by omega)]
    simp only [Prim.full, and_full, ChipS.at]
    rfl
theorem Live.prims {c : ChipS} (h : Live c) (l : List Prim) (hl : ∀ p ∈ l, p.ok) : Live (c.prims l) ∧ (c.prims l).at = fulls l c.at ∧ (c.prims l).ops = c.ops + l.length := by
  induction l generalizing c with
  | nil => exact ⟨h, rfl, by simp [ChipS.prims_nil]⟩
  | cons p l ih =>
    obtain ⟨h1, h2, h3⟩ := h.prim p (hl p (by simp))
    obtain ⟨k1, k2, k3⟩ := ih h1 (fun q hq => hl q (by simp [hq]))
    refine ⟨k1, ?_, ?_⟩
    · rw [ChipS.prims_cons, k2, h2]; rfl
    · rw [ChipS.prims_cons, k3, h3, List.length_cons]; omega
end Go.Proofs.YtpfdfpeomofabaaDoor

namespace Go.Proofs.YtpfdfpeomofabaaDoor
open Go.RowKit

/-- The table of turns stands where the program lays it. -/
structure TurnsAt (w : World) : Prop where
  t0 : w.cell? ⟨0, 0, none⟩ = some (.int .u8 254)
  t1 : w.cell? ⟨0, 1, none⟩ = some (.int .u8 253)
  t2 : w.cell? ⟨0, 2, none⟩ = some (.int .u8 251)
theorem lt_of_cell {w : World} {p : Addr} {v : Value} (h : w.cell? p = some v) : p.block < w.heap.size := by
  unfold World.cell? at h
  cases e : w.heap[p.block]? with
  | none => rw [e] at h; cases h
  | some x => exact (Array.getElem?_eq_some_iff.1 e).1
theorem cell_same {w w' : World} {p : Addr} (h : w'.heap[p.block]? = w.heap[p.block]?) : w'.cell? p = w.cell? p := by
  unfold World.cell?; rw [h]
theorem TurnsAt.only {w w' : World} {S : Nat → Prop} (h : TurnsAt w) (ho : Only S w w') (h0 : ¬ S 0) : TurnsAt w' := by
  have e : w'.heap[0]? = w.heap[0]? := ho.block 0 (lt_of_cell h.t0) h0
  exact ⟨(cell_same (p := ⟨0, 0, none⟩) e).trans h.t0, (cell_same (p := ⟨0, 1, none⟩) e).trans h.t1, (cell_same (p := ⟨0, 2, none⟩) e).trans h.t2⟩
theorem TurnsAt.below {w w' : World} (h : TurnsAt w) (ho : Below w.heap.size w w') : TurnsAt w' := h.only (Only.of_below (fun _ => False) ho) (fun x => x)
def turnB (b : UInt8) : Option Nat := if b = 254 then some 0 else if b = 253 then some 1 else if b = 251 then some 2 else none
def nextT (t : Nat) : Nat := if 2 ≤ t then 0 else t + 1

set_option maxRecDepth 100000 in
theorem nextTurn_any (w : World) (t : Nat) (ht : t < 3) :
    Calls Tryd.prog 64 #[.int .i64 t] w fun e w' => e = .returned (.int .i64 (nextT t)) ∧ w' = w := by
  have h3 : t = 0 ∨ t = 1 ∨ t = 2 := by omega
  rcases h3 with rfl | rfl | rfl
  all_goals
    go_enter Tryd.func64, Tryd.ntmps64
    go_wp2
    go_ret
    exact ⟨rfl, rfl⟩
set_option maxRecDepth 100000 in
theorem otherPage_any (w : World) (s : Nat) (hs : s < 2) :
    Calls Tryd.prog 63 #[.int .i64 s] w fun e w' => e = .returned (.int .i64 (1 - s : Nat)) ∧ w' = w := by
  have h3 : s = 0 ∨ s = 1 := by omega
  rcases h3 with rfl | rfl
  all_goals
    go_enter Tryd.func63, Tryd.ntmps63
    go_wp2
    go_ret
    exact ⟨rfl, rfl⟩
theorem u8_ne {x : UInt8} {n : Nat} (h : ¬ x = UInt8.ofNat n) : ¬ ((n : Int) = (x.toNat : Int)) := by
  intro e
  apply h
  have : x.toNat = n := by omega
  rw [← this]; simp
set_option maxRecDepth 100000 in
theorem turnOf_any (w : World) (x : UInt8) (hT : TurnsAt w) :
    Calls Tryd.prog 73 #[.int .u8 (x.toNat : Int)] w fun e w' => e = .returned (.tuple #[.int .i64 ((turnB x).getD 0 : Nat), .bool (turnB x).isSome]) ∧ w' = w := by
  obtain ⟨t0, t1, t2⟩ := hT
  by_cases h0 : x = 254
  · subst h0
    go_enter Tryd.func73, Tryd.ntmps73
    go_wp2
    refine wp_loop_rounds 1 ?_
    rw [rounds_succ]
    go_wp2
    refine bodyPost_ret (results_tmp2 rfl _ _ _) rfl ?_
    exact ⟨rfl, rfl⟩
  by_cases h1 : x = 253
  · subst h1
    go_enter Tryd.func73, Tryd.ntmps73
    go_wp2
    refine wp_loop_rounds 2 ?_
    rw [rounds_succ]
    go_wp2
    rw [rounds_succ]
    go_wp2
    refine bodyPost_ret (results_tmp2 rfl _ _ _) rfl ?_
    exact ⟨rfl, rfl⟩
  by_cases h2 : x = 251
  · subst h2
    go_enter Tryd.func73, Tryd.ntmps73
    go_wp2
    refine wp_loop_rounds 3 ?_
    rw [rounds_succ]
    go_wp2
    rw [rounds_succ]
    go_wp2
    rw [rounds_succ]
    go_wp2
    refine bodyPost_ret (results_tmp2 rfl _ _ _) rfl ?_
    exact ⟨rfl, rfl⟩
  · have n0 : ¬ ((254 : Int) = (x.toNat : Int)) := u8_ne (n := 254) h0
    have n1 : ¬ ((253 : Int) = (x.toNat : Int)) := u8_ne (n := 253) h1
    have n2 : ¬ ((251 : Int) = (x.toNat : Int)) := u8_ne (n := 251) h2
    have HT : Hid (turnB x = none) := by unfold turnB Hid; rw [if_neg h0, if_neg h1, if_neg h2]
    clear h0 h1 h2
    go_enter Tryd.func73, Tryd.ntmps73
    go_wp2
    refine wp_loop_rounds 4 ?_
    rw [rounds_succ]
    go_wp2
    rw [rounds_succ]
    go_wp2
    rw [rounds_succ]
    go_wp2
    rw [rounds_succ]
    go_wp2
    refine bodyPost_ret (results_tmp2 rfl _ _ _) rfl ?_
    rw [HT.out]
    exact ⟨rfl, rfl⟩

def markedM (cells : List UInt8) : Bool := decide (cells.getD 512 0 = 254)
theorem read_one (c : ChipS) (h : c.cells.length = 1024) : c.read 512 1 = ⟨#[c.cells.getD 512 0]⟩ := by
  unfold ChipS.read
  rw [if_neg (by omega)]
  have e : (c.cells.drop (512 : Int).toNat).take (1 : Int).toNat = [c.cells.getD 512 0] := by
    apply List.ext_getElem
    · simp [h]
    · intro i h1 h2
      simp [h] at h1
      subst h1
      simp [List.getD_eq_getElem?_getD, h]
  rw [e]
set_option maxRecDepth 100000 in
theorem marked_any (w : World) (b g : Nat) (c : ChipS) (h : ChipAt w b g c) :
    Calls Tryd.prog 57 #[.pointer (some ⟨b, 0, none⟩)] w fun e w' => e = .returned (.bool (markedM c.cells)) ∧ w' = w := by
  have HR := read_any w b g c 512 1 (by omega) (by omega) (by omega) (by omega) h
  rw [read_one c h.len] at HR
  have HM : Hid (markedM c.cells = (c.cells.getD 512 0 == 254)) := Bool.eq_iff_iff.2 (by simp [markedM])
  generalize c.cells.getD 512 0 = x at *
  clear h
  go_enter Tryd.func57, Tryd.ntmps57
  go_wp2_with (go_at_call 25; refine HR.mono ?_; rintro en w2 ⟨rfl, rfl⟩)
  go_ret
  exact ⟨by rw [HM.out]; rfl, rfl⟩
end Go.Proofs.YtpfdfpeomofabaaDoor

namespace Go.Proofs.YtpfdfpeomofabaaDoor
open Go.RowKit

def verM (l : List UInt8) : Int := match unpackM l with
  | none => -1
  | some (v, _, _) => v
theorem unpack_ver {l : List UInt8} {v e : Int} {rs : List Seg} (h : unpackM l = some (v, e, rs)) : 0 ≤ v ∧ v ≤ 65535 ∧ l.length ≤ 120 ∧ l ≠ [] := by
  unfold unpackM at h
  split at h
  · cases h
  · split at h
    · rename_i hp
      simp only [Option.some.injEq, Prod.mk.injEq] at h
      obtain ⟨rfl, rfl, rfl⟩ := h
      obtain ⟨m, h1, h2, _, _, _, _, _, h3, h4⟩ := pack_ok hp
      refine ⟨h1, h2, h4, ?_⟩
      rw [h3]
      simp [textOf]
    · cases h
theorem ver_lo (l : List UInt8) : -1 ≤ verM l := by
  unfold verM
  split
  · omega
  · rename_i h; have := (unpack_ver h).1; omega
theorem ver_hi (l : List UInt8) : verM l ≤ 65535 := by
  unfold verM
  split
  · omega
  · rename_i h; exact (unpack_ver h).2.1
theorem ver_len (l : List UInt8) (h : 0 ≤ verM l) : l.length ≤ 120 ∧ l ≠ [] := by
  unfold verM at h
  split at h
  · omega
  · rename_i h'; exact (unpack_ver h').2.2
/-- What a device holds. -/
structure HeldS where
  good : ByteArray
  floor : Int
  trial : ByteArray
  tries : Int
  size : Int
  got : ByteArray
def verB (b : ByteArray) : Int := verM b.data.toList
def HeldS.lawful (h : HeldS) : Bool :=
  !decide (verB h.good < h.floor) && (if 0 < h.size then decide (h.size ≤ 120) && decide ((h.got.size : Int) ≤ h.size) && decide (h.tries = 0)
    else if h.trial.size = 0 then decide (h.tries = 0) else decide (h.tries ≤ 3) && decide (h.floor ≤ verB h.trial))
def heldAt (l : List UInt8) : HeldS :=
  { good := tx ((l.drop 7).take (l.getD 3 0).toNat), floor := 256 * ((l.getD 1 0).toNat : Int) + (l.getD 2 0).toNat
    trial := if 0 < (l.getD 5 0).toNat then tx [] else tx ((l.drop (7 + (l.getD 3 0).toNat)).take (l.getD 6 0).toNat)
    tries := (l.getD 4 0).toNat, size := (l.getD 5 0).toNat
    got := if 0 < (l.getD 5 0).toNat then tx ((l.drop (7 + (l.getD 3 0).toNat)).take (l.getD 6 0).toNat) else tx [] }
def decPage (l : List UInt8) : Option HeldS :=
  if l.length < 7 + (l.getD 3 0).toNat + (l.getD 6 0).toNat then none else if (heldAt l).lawful then some (heldAt l) else none
def turnV : Nat → UInt8
  | 0 => 254
  | 1 => 253
  | _ => 251
def pageM (l : List UInt8) : Option (Nat × HeldS) := match turnB (l.getD 0 0) with
  | none => none
  | some t => (decPage l).map fun h => (t, h)
def sectorOf (cells : List UInt8) (s : Nat) : List UInt8 := (cells.drop (s * 256)).take 256
def newestM (cells : List UInt8) : Option (Nat × Nat × HeldS) :=
  match pageM (sectorOf cells 0), pageM (sectorOf cells 1) with
  | none, none => none
  | none, some (t, h) => some (1, t, h)
  | some (t, h), none => some (0, t, h)
  | some (t0, h0), some (t1, h1) => if t1 = nextT t0 then some (1, t1, h1) else some (0, t0, h0)
def loadM (cells : List UInt8) : Option HeldS := if markedM cells then (newestM cells).map (·.2.2) else none
def headM (h : HeldS) : List UInt8 := [byteOf (h.floor / 256), byteOf (h.floor % 256), byteOf h.good.size, byteOf h.tries, byteOf h.size, byteOf ((h.trial.size + h.got.size : Nat) : Int)]
def restM (h : HeldS) : List UInt8 := headM h ++ h.good.data.toList ++ (h.trial.data.toList ++ h.got.data.toList)
def encM (h : HeldS) : List UInt8 := 255 :: restM h
def pieceM (o : Nat) (l : List UInt8) (j : Nat) : Prim := .pr (o + 8 * j) ((l.drop (8 * j)).take 8)
def piecesN (o : Nat) (l : List UInt8) (k : Nat) : List Prim := (List.range k).map (pieceM o l)
def piecesM (o : Nat) (l : List UInt8) : List Prim := piecesN o l ((l.length + 7) / 8)
def writeOps (s t : Nat) (h : HeldS) : List Prim := .er s :: (piecesM (s * 256) (encM h) ++ [.pr (s * 256) [turnV t]])
def saveOps (cells : List UInt8) (h : HeldS) : List Prim := match newestM cells with
  | none => []
  | some (s, t, _) => writeOps (1 - s) (nextT t) h
def createOps (cells : List UInt8) (h : HeldS) : List Prim := (if markedM cells then [.er 2] else []) ++ ([.er 0, .er 1, .er 2] ++ (writeOps 0 0 h ++ [.pr 512 [254]]))

theorem piecesN_succ (o : Nat) (l : List UInt8) (k : Nat) : piecesN o l (k + 1) = piecesN o l k ++ [pieceM o l k] := by simp [piecesN, List.range_succ]
theorem drop_take_getD (l : List UInt8) (a n j : Nat) (h : j < n) : ((l.drop a).take n).getD j 0 = l.getD (a + j) 0 := by
  simp [List.getD_eq_getElem?_getD, h]
theorem pieces_full (o : Nat) (l : List UInt8) (f : Nat → UInt8) (k : Nat) (i : Nat) :
    fulls (piecesN o l k) f i = if o ≤ i ∧ i < o + 8 * k ∧ i < o + l.length then f i &&& l.getD (i - o) 0 else f i := by
  induction k with
  | zero => rw [if_neg (by omega)]; rfl
  | succ k ih =>
    rw [piecesN_succ, fulls_append]
    show (pieceM o l k).full (fulls (piecesN o l k) f) i = _
    simp only [pieceM, Prim.full, List.length_take, List.length_drop]
    by_cases h1 : o + 8 * k ≤ i ∧ i < o + 8 * k + min 8 (l.length - 8 * k)
    · rw [if_pos h1, ih, if_neg (by omega), if_pos (by omega), drop_take_getD _ _ _ _ (by omega)]
      congr 2; omega
    · rw [if_neg h1, ih]
      by_cases h2 : o ≤ i ∧ i < o + 8 * k ∧ i < o + l.length
      · rw [if_pos h2, if_pos (by omega)]
      · rw [if_neg h2, if_neg (by omega)]
theorem full_and (x : UInt8) : 255 &&& x = x := by
  have : (255 : UInt8) = -1 := rfl
  rw [this]; exact UInt8.neg_one_and
theorem write_full (s t : Nat) (h : HeldS) (f : Nat → UInt8) (hL : (encM h).length ≤ 256) (i : Nat) :
    fulls (writeOps s t h) f i = if s * 256 ≤ i ∧ i < s * 256 + 256 then (if i = s * 256 then turnV t else if i - s * 256 < (encM h).length then (encM h).getD (i - s * 256) 0 else 255) else f i := by
  rw [writeOps, show (Prim.er s :: (piecesM (s * 256) (encM h) ++ [.pr (s * 256) [turnV t]])) = [Prim.er s] ++ (piecesM (s * 256) (encM h) ++ [.pr (s * 256) [turnV t]]) from rfl, fulls_append, fulls_append]
  show (Prim.pr (s * 256) [turnV t]).full (fulls (piecesM (s * 256) (encM h)) ((Prim.er s).full f)) i = _
  have hp : 1 ≤ (encM h).length := by simp [encM]
  simp only [Prim.full, List.length_singleton, piecesM, pieces_full]
  by_cases e : i = s * 256
  · subst e
    rw [if_pos (by omega), if_pos (by omega), if_pos (by omega), if_pos (by omega), if_pos rfl]
    simp [encM, full_and]
  · rw [if_neg (by omega)]
    by_cases h1 : s * 256 ≤ i ∧ i < s * 256 + 256
    · rw [if_pos h1, if_pos h1, if_neg e]
      by_cases h2 : i - s * 256 < (encM h).length
      · rw [if_pos (by omega), if_pos h2, full_and]
      · rw [if_neg (by omega), if_neg h2]
    · rw [if_neg h1, if_neg h1, if_neg (by omega)]
def pageText (t : Nat) (h : HeldS) : List UInt8 := turnV t :: (restM h ++ List.replicate (256 - (encM h).length) 255)
theorem sector_getD (cells : List UInt8) (s j : Nat) (h : j < 256) : (sectorOf cells s).getD j 0 = cells.getD (s * 256 + j) 0 := drop_take_getD _ _ _ _ h
theorem sector_len (cells : List UInt8) (s : Nat) (hl : cells.length = 1024) (hs : s < 4) : (sectorOf cells s).length = 256 := by simp [sectorOf, hl]; omega
theorem list_ext (a b : List UInt8) (hl : a.length = b.length) (h : ∀ i, i < a.length → a.getD i 0 = b.getD i 0) : a = b := by
  apply List.ext_getElem hl
  intro i h1 h2
  have := h i h1
  simpa [List.getD_eq_getElem?_getD, h1, h2] using this
theorem sector_write (c : ChipS) (c' : ChipS) (s t : Nat) (h : HeldS) (hL : (encM h).length ≤ 256) (hl' : c'.cells.length = 1024) (hs : s < 4) (he : c'.at = fulls (writeOps s t h) c.at) :
    sectorOf c'.cells s = pageText t h := by
  apply list_ext
  · rw [sector_len _ _ hl' hs]; simp only [pageText, List.length_cons, List.length_append, List.length_replicate, encM] at *; omega
  · intro i hi
    rw [sector_len _ _ hl' hs] at hi
    rw [sector_getD _ _ _ hi]
    show c'.at (s * 256 + i) = _
    rw [he, write_full _ _ _ _ hL, if_pos (by omega)]
    match i with
    | 0 => simp [pageText]
    | j + 1 =>
      rw [if_neg (by omega), show s * 256 + (j + 1) - s * 256 = j + 1 by omega]
      simp only [pageText, encM, List.length_cons, List.getD_cons_succ]
      split
      · rw [List.getD_eq_getElem?_getD, List.getD_eq_getElem?_getD, List.getElem?_append_left (by omega)]
      · rw [List.getD_eq_getElem?_getD, List.getElem?_append_right (by omega), List.getElem?_replicate, if_pos (by simp only [encM, List.length_cons] at hL; omega)]; rfl
theorem sector_same (c c' : ChipS) (s : Nat) (hl : c.cells.length = 1024) (hl' : c'.cells.length = 1024) (hs : s < 4) (he : ∀ j, j < 256 → c'.at (s * 256 + j) = c.at (s * 256 + j)) :
    sectorOf c'.cells s = sectorOf c.cells s := by
  apply list_ext
  · rw [sector_len _ _ hl' hs, sector_len _ _ hl hs]
  · intro i hi
    rw [sector_len _ _ hl' hs] at hi
    rw [sector_getD _ _ _ hi, sector_getD _ _ _ hi]
    exact he i hi

/-- What a device can hold, in one form. -/
structure HeldS.ok (h : HeldS) : Prop where
  law : h.lawful = true
  fl : 0 ≤ h.floor
  tr : 0 ≤ h.tries
  sz : 0 ≤ h.size
  a : 0 < h.size → h.trial.size = 0
  b : h.size = 0 → h.got.size = 0
theorem HeldS.ok.img {h : HeldS} (k : h.ok) : h.floor ≤ verB h.good ∧ 0 ≤ verB h.good ∧ h.good.size ≤ 120 ∧ verB h.good ≤ 65535 := by
  have := k.law
  simp only [HeldS.lawful, Bool.and_eq_true, Bool.not_eq_true', decide_eq_false_iff_not] at this
  have h0 := k.fl
  have h1 : 0 ≤ verM h.good.data.toList := by have := this.1; unfold verB at this; omega
  have h2 := ver_len _ h1
  have h3 : h.good.size ≤ 120 := by have := h2.1; rw [Array.length_toList] at this; exact this
  exact ⟨by have := this.1; omega, h1, h3, ver_hi _⟩
theorem HeldS.ok.behind {h : HeldS} (k : h.ok) : h.trial.size + h.got.size ≤ 120 ∧ h.tries ≤ 3 ∧ h.size ≤ 120 := by
  have hl := k.law
  simp only [HeldS.lawful, Bool.and_eq_true] at hl
  have hl := hl.2
  split at hl
  · rename_i hs
    simp only [Bool.and_eq_true, decide_eq_true_eq] at hl
    have := k.a hs
    omega
  · rename_i hs
    have := k.sz
    have hz : h.size = 0 := by omega
    have hb := k.b hz
    split at hl
    · simp only [decide_eq_true_eq] at hl; omega
    · simp only [Bool.and_eq_true, decide_eq_true_eq] at hl
      have h0 := k.fl
      have h1 : 0 ≤ verM h.trial.data.toList := by have := hl.2; unfold verB at this; omega
      have h2 := (ver_len _ h1).1
      have h3 : h.trial.size ≤ 120 := by rw [Array.length_toList] at h2; exact h2
      omega
theorem HeldS.ok.len {h : HeldS} (k : h.ok) : (encM h).length ≤ 247 ∧ 7 ≤ (encM h).length := by
  have := k.img; have := k.behind
  simp only [encM, restM, headM, List.length_cons, List.length_append, List.length_nil, Array.length_toList]
  have e1 : h.good.data.size = h.good.size := rfl
  have e2 : h.trial.data.size = h.trial.size := rfl
  have e3 : h.got.data.size = h.got.size := rfl
  omega
theorem tx_list (b : ByteArray) : tx b.data.toList = b := rfl
theorem byteOf_nat (n : Int) (h0 : 0 ≤ n) (h1 : n < 256) : ((byteOf n).toNat : Int) = n := by
  unfold byteOf
  rw [UInt8.toNat_ofNat']
  omega
theorem empty_of_size {b : ByteArray} (h : b.size = 0) : b = tx [] := by
  have : b.data.toList = [] := List.length_eq_zero_iff.1 (by rw [Array.length_toList]; exact h)
  rw [← tx_list b, this]
end Go.Proofs.YtpfdfpeomofabaaDoor

namespace Go.Proofs.YtpfdfpeomofabaaDoor
open Go.RowKit

theorem take_drop_mid (A B C : List UInt8) (a b : Nat) (ha : a = A.length) (hb : b = B.length) : ((A ++ (B ++ C)).drop a).take b = B := by
  subst ha; subst hb; simp
theorem pageText_len (t : Nat) (h : HeldS) (hL : (encM h).length ≤ 256) : (pageText t h).length = 256 := by
  simp only [pageText, List.length_cons, List.length_append, List.length_replicate, encM] at *; omega
theorem heldAt_page (t : Nat) (h : HeldS) (k : h.ok) : heldAt (pageText t h) = h ∧ ¬ ((pageText t h).length < 7 + ((pageText t h).getD 3 0).toNat + ((pageText t h).getD 6 0).toNat) := by
  obtain ⟨i1, i2, i3, i4⟩ := k.img
  obtain ⟨b1, b2, b3⟩ := k.behind
  have k1 := k.fl; have k2 := k.tr; have k3 := k.sz
  have g1 : (((pageText t h).getD 1 0).toNat : Int) = h.floor / 256 := byteOf_nat _ (by omega) (by omega)
  have g2 : (((pageText t h).getD 2 0).toNat : Int) = h.floor % 256 := byteOf_nat _ (by omega) (by omega)
  have g3 : (((pageText t h).getD 3 0).toNat : Int) = h.good.size := byteOf_nat _ (by omega) (by omega)
  have g4 : (((pageText t h).getD 4 0).toNat : Int) = h.tries := byteOf_nat _ (by omega) (by omega)
  have g5 : (((pageText t h).getD 5 0).toNat : Int) = h.size := byteOf_nat _ (by omega) (by omega)
  have g6 : (((pageText t h).getD 6 0).toNat : Int) = (h.trial.size + h.got.size : Nat) := byteOf_nat _ (by omega) (by omega)
  have e3 : ((pageText t h).getD 3 0).toNat = h.good.data.toList.length := by rw [Array.length_toList]; exact Int.ofNat.inj g3
  have e6 : ((pageText t h).getD 6 0).toNat = (h.trial.data.toList ++ h.got.data.toList).length := by rw [List.length_append, Array.length_toList, Array.length_toList]; exact Int.ofNat.inj g6
  obtain ⟨Z, hZ⟩ : ∃ Z, Z = List.replicate (256 - (encM h).length) (255 : UInt8) := ⟨_, rfl⟩
  have hp : pageText t h = (turnV t :: headM h) ++ (h.good.data.toList ++ ((h.trial.data.toList ++ h.got.data.toList) ++ Z)) := by
    rw [hZ]; simp [pageText, restM]
  have hp2 : pageText t h = ((turnV t :: headM h) ++ h.good.data.toList) ++ ((h.trial.data.toList ++ h.got.data.toList) ++ Z) := by
    rw [hp]; simp
  have s1 : ((pageText t h).drop 7).take ((pageText t h).getD 3 0).toNat = h.good.data.toList := by
    rw [e3, hp]; exact take_drop_mid _ _ _ _ _ (by simp [headM]) rfl
  have s2 : ((pageText t h).drop (7 + ((pageText t h).getD 3 0).toNat)).take ((pageText t h).getD 6 0).toNat = h.trial.data.toList ++ h.got.data.toList := by
    rw [e6, e3, hp2]; exact take_drop_mid _ _ _ _ _ (by simp [headM]; omega) rfl
  have hlen := pageText_len t h (by have := k.len; omega)
  refine ⟨?_, ?_⟩
  · have E : heldAt (pageText t h) = { good := tx h.good.data.toList, floor := h.floor, trial := if 0 < h.size then tx [] else tx (h.trial.data.toList ++ h.got.data.toList), tries := h.tries, size := h.size, got := if 0 < h.size then tx (h.trial.data.toList ++ h.got.data.toList) else tx [] } := by
      unfold heldAt
      rw [s1, s2, g1, g2, g4, g5]
      have e0 : (0 < ((pageText t h).getD 5 0).toNat) = (0 < h.size) := by rw [← g5]; exact propext (by omega)
      simp only [e0]
      congr 1
      omega
    rw [E]
    obtain ⟨gd, fl, tr, ts, sz, gt⟩ := h
    have ka := k.a; have kb := k.b
    simp only at *
    by_cases hs : 0 < sz
    · have := empty_of_size (ka hs)
      subst this
      simp only [if_pos hs]
      congr 1
    · have := empty_of_size (kb (by omega))
      subst this
      simp only [if_neg hs]
      congr 1
      show tx (tr.data.toList ++ []) = tr
      rw [List.append_nil]; rfl
  · rw [hlen]
    have : (((pageText t h).getD 3 0).toNat : Int) + ((pageText t h).getD 6 0).toNat ≤ 240 := by rw [g3, g6]; omega
    omega
theorem dec_page (t : Nat) (h : HeldS) (k : h.ok) : decPage (pageText t h) = some h := by
  obtain ⟨h1, h2⟩ := heldAt_page t h k
  unfold decPage
  rw [if_neg h2, h1, if_pos k.law]
theorem turn_back (t : Nat) (ht : t < 3) : turnB (turnV t) = some t := by
  match t, ht with
  | 0, _ => rfl
  | 1, _ => rfl
  | 2, _ => rfl
theorem page_text (t : Nat) (h : HeldS) (k : h.ok) (ht : t < 3) : pageM (pageText t h) = some (t, h) := by
  unfold pageM
  rw [show (pageText t h).getD 0 0 = turnV t from rfl, turn_back t ht, dec_page t h k]; rfl
theorem pageM_lt {l : List UInt8} {t : Nat} {h : HeldS} (e : pageM l = some (t, h)) : t < 3 := by
  unfold pageM at e
  split at e
  · cases e
  · rename_i t' ht
    cases hd : decPage l with
    | none => rw [hd] at e; cases e
    | some x =>
      rw [hd] at e
      simp only [Option.map_some, Option.some.injEq, Prod.mk.injEq] at e
      obtain ⟨rfl, rfl⟩ := e
      unfold turnB at ht
      (repeat' split at ht) <;> simp_all <;> omega
theorem newest_lt {l : List UInt8} {s t : Nat} {h : HeldS} (e : newestM l = some (s, t, h)) : s < 2 ∧ t < 3 ∧ pageM (sectorOf l s) = some (t, h) := by
  unfold newestM at e
  split at e
  · cases e
  · rename_i h1 h2; cases e; exact ⟨by omega, pageM_lt h2, h2⟩
  · rename_i h1 h2; cases e; exact ⟨by omega, pageM_lt h1, h1⟩
  · rename_i h1 h2
    split at e
    · rename_i hn; cases e; exact ⟨by omega, pageM_lt h2, h2⟩
    · cases e; exact ⟨by omega, pageM_lt h1, h1⟩
theorem writeOps_ok (s t : Nat) (h : HeldS) (hs : s < 4) (hL : (encM h).length ≤ 256) : ∀ p ∈ writeOps s t h, p.ok := by
  intro p hp
  simp only [writeOps, List.mem_cons, List.mem_append, List.not_mem_nil, or_false] at hp
  rcases hp with rfl | hp | rfl
  · exact hs
  · simp only [piecesM, piecesN, List.mem_map, List.mem_range] at hp
    obtain ⟨j, hj, rfl⟩ := hp
    simp only [pieceM, Prim.ok, List.length_take, List.length_drop]
    omega
  · simp only [Prim.ok, List.length_singleton]; omega
theorem writeOps_len (s t : Nat) (h : HeldS) (k : h.ok) : (writeOps s t h).length ≤ 33 := by
  have := k.len
  simp only [writeOps, List.length_cons, List.length_append, piecesM, piecesN, List.length_map, List.length_range, List.length_nil]
  omega
theorem marked_at (c : ChipS) : markedM c.cells = decide (c.at 512 = 254) := rfl

/-- A live chip that a device lies on holds what was saved last. -/
theorem load_save (c : ChipS) (L : Live c) (h h0 : HeldS) (k : h.ok) (hl : loadM c.cells = some h0) :
    Live (c.prims (saveOps c.cells h)) ∧ loadM (c.prims (saveOps c.cells h)).cells = some h ∧ ∃ n : Nat, n ≤ 64 ∧ (c.prims (saveOps c.cells h)).ops = c.ops + n := by
  unfold loadM at hl
  split at hl
  · rename_i hm
    cases hn : newestM c.cells with
    | none => rw [hn] at hl; cases hl
    | some q =>
      obtain ⟨s, t, h1⟩ := q
      obtain ⟨hs2, ht3, hpg⟩ := newest_lt hn
      have hso : saveOps c.cells h = writeOps (1 - s) (nextT t) h := by unfold saveOps; rw [hn]
      rw [hso]
      have hL := k.len
      obtain ⟨L', a', o'⟩ := L.prims (writeOps (1 - s) (nextT t) h) (writeOps_ok _ _ _ (by omega) (by omega))
      refine ⟨L', ?_, _, ?_, o'⟩
      · have hnx : nextT t < 3 := by unfold nextT; split <;> omega
        have q1 := sector_write c _ (1 - s) (nextT t) h (by omega) L'.len (by omega) a'
        have q2 := sector_same c (c.prims (writeOps (1 - s) (nextT t) h)) s L.len L'.len (by omega) (by
          intro j hj
          rw [a', write_full _ _ _ _ (by omega), if_neg (by omega)])
        have q3 : markedM (c.prims (writeOps (1 - s) (nextT t) h)).cells = true := by
          rw [marked_at, a', write_full _ _ _ _ (by omega), if_neg (by omega), ← marked_at]; exact hm
        unfold loadM
        rw [q3, if_pos rfl]
        have p1 := page_text (nextT t) h k hnx
        rw [← q1] at p1
        rw [← q2] at hpg
        have hs01 : s = 0 ∨ s = 1 := by omega
        generalize hcc : c.prims (writeOps (1 - s) (nextT t) h) = c' at *
        rcases hs01 with rfl | rfl
        · unfold newestM
          rw [hpg, show sectorOf c'.cells 1 = sectorOf c'.cells (1 - 0) from rfl, p1]
          simp
        · unfold newestM
          rw [hpg, show sectorOf c'.cells 0 = sectorOf c'.cells (1 - 1) from rfl, p1]
          have : ¬ t = nextT (nextT t) := by unfold nextT; (repeat' split) <;> omega
          simp [this]
      · have := writeOps_len (1 - s) (nextT t) h k; omega
  · cases hl

theorem load_create (c : ChipS) (L : Live c) (h : HeldS) (k : h.ok) :
    Live (c.prims (createOps c.cells h)) ∧ loadM (c.prims (createOps c.cells h)).cells = some h ∧ ∃ n : Nat, n ≤ 64 ∧ (c.prims (createOps c.cells h)).ops = c.ops + n := by
  have hL := k.len
  obtain ⟨A, hA⟩ : ∃ A, A = (if markedM c.cells then [Prim.er 2] else []) ++ [Prim.er 0, .er 1, .er 2] := ⟨_, rfl⟩
  have hco : createOps c.cells h = A ++ (writeOps 0 0 h ++ [.pr 512 [254]]) := by rw [hA]; unfold createOps; rw [List.append_assoc]
  have hAok : ∀ p ∈ A, p.ok := by
    intro p hp
    rw [hA] at hp
    simp only [List.mem_append, List.mem_cons, List.not_mem_nil, or_false] at hp
    rcases hp with hp | rfl | rfl | rfl
    · split at hp
      · simp only [List.mem_singleton] at hp; subst hp; simp [Prim.ok]
      · cases hp
    all_goals simp [Prim.ok]
  have hAl : A.length ≤ 4 := by rw [hA]; split <;> simp
  have hAf : ∀ i, i < 768 → fulls A c.at i = 255 := by
    intro i hi
    rw [hA, fulls_append]
    show (Prim.er 2).full ((Prim.er 1).full ((Prim.er 0).full _)) i = 255
    simp only [Prim.full]
    (repeat' split) <;> first | rfl | omega
  clear hA
  rw [hco, ChipS.prims_append]
  obtain ⟨L1, a1, o1⟩ := L.prims A hAok
  obtain ⟨L2, a2, o2⟩ := L1.prims (writeOps 0 0 h) (writeOps_ok _ _ _ (by omega) (by omega))
  rw [ChipS.prims_append]
  generalize c.prims A = c1 at *
  generalize hc2 : c1.prims (writeOps 0 0 h) = c2 at *
  have hok5 : ∀ p ∈ [Prim.pr 512 [254]], p.ok := by intro p hp; simp only [List.mem_singleton] at hp; subst hp; simp [Prim.ok]
  obtain ⟨L3, a3, o3⟩ := L2.prims [.pr 512 [254]] hok5
  generalize c2.prims [.pr 512 [254]] = c3 at *
  refine ⟨L3, ?_, (writeOps 0 0 h).length + A.length + 1, ?_, ?_⟩
  · have q1 := sector_write c1 c2 0 0 h (by omega) L2.len (by omega) a2
    have a3' : ∀ i, c3.at i = if i = 512 then c2.at i &&& 254 else c2.at i := by
      intro i
      rw [a3]
      show (Prim.pr 512 [254]).full c2.at i = _
      simp only [Prim.full, List.length_singleton]
      by_cases e : i = 512
      · subst e; simp
      · rw [if_neg (by omega), if_neg e]
    have q2 := sector_same c2 c3 0 L2.len L3.len (by omega) (by intro j hj; rw [a3', if_neg (by omega)])
    have q3 : ∀ j, j < 256 → c3.at (256 + j) = 255 := by
      intro j hj
      rw [a3', if_neg (by omega), a2, write_full _ _ _ _ (by omega), if_neg (by omega), a1, hAf _ (by omega)]
    have q4 : c3.at 512 = 254 := by
      rw [a3', if_pos rfl, a2, write_full _ _ _ _ (by omega), if_neg (by omega), a1, hAf _ (by omega)]; rfl
    have p1 : pageM (sectorOf c3.cells 1) = none := by
      unfold pageM
      rw [sector_getD _ _ _ (by omega)]
      rw [show c3.cells.getD (1 * 256 + 0) 0 = 255 from q3 0 (by omega)]
      rfl
    have p0 := page_text 0 h k (by omega)
    rw [← q1, ← q2] at p0
    unfold loadM
    rw [marked_at, q4, decide_eq_true rfl, if_pos rfl]
    unfold newestM
    rw [p0, p1]; rfl
  · have := writeOps_len 0 0 h k; omega
  · rw [o3, o2, o1, List.length_singleton]; omega
end Go.Proofs.YtpfdfpeomofabaaDoor

namespace Go.Proofs.YtpfdfpeomofabaaDoor
open Go.RowKit

theorem newChiphip_live : Live newChip := ⟨rfl, rfl, List.length_replicate ..⟩
def movedM (cells : List UInt8) : ChipS := newChip.prims (piecesN 0 cells 128)
theorem moved_ok (cells : List UInt8) (hl : cells.length = 1024) : Live (movedM cells) ∧ (movedM cells).cells = cells := by
  obtain ⟨L, a, o⟩ := newChiphip_live.prims (piecesN 0 cells 128) (by
    intro p hp
    simp only [piecesN, List.mem_map, List.mem_range] at hp
    obtain ⟨j, hj, rfl⟩ := hp
    simp only [pieceM, Prim.ok, List.length_take, List.length_drop]
    omega)
  refine ⟨L, list_ext _ _ (by rw [hl]; exact L.len) ?_⟩
  intro i hi
  have hi : i < 1024 := by have := L.len; unfold movedM at hi; omega
  show (newChip.prims (piecesN 0 cells 128)).at i = _
  rw [a, pieces_full, if_pos (by omega)]
  have : newChip.at i = 255 := by
    show (List.replicate 1024 (255 : UInt8)).getD i 0 = 255
    rw [List.getD_eq_getElem?_getD, List.getElem?_replicate, if_pos hi]; rfl
  rw [this, full_and]; rfl
def noText : ByteArray := tx []
def formatM (c : ChipS) (img : ByteArray) : ChipS × Int := match loadM c.cells with
  | some _ => (c, 7)
  | none => if verB img < 0 then (c, 6) else (c.prims (createOps c.cells ⟨img, verB img, tx [], 0, 0, tx []⟩), 0)
def stageM (c : ChipS) (n : Int) : ChipS × Int :=
  if n < 1 ∨ 120 < n then (c, 9) else match loadM c.cells with
  | none => (c, 8)
  | some h => if h.trial.size ≠ 0 then (c, 10) else (c.prims (saveOps c.cells ⟨h.good, h.floor, tx [], 0, n, tx []⟩), 0)
def writeM (c : ChipS) (d : ByteArray) : ChipS × Int := match loadM c.cells with
  | none => (c, 8)
  | some h => if h.size = 0 then (c, 11) else if d.size = 0 ∨ 8 < d.size ∨ h.size - h.got.size < d.size then (c, 9)
    else (c.prims (saveOps c.cells { h with got := h.got ++ d }), 0)
def activM (c : ChipS) : ChipS × Int := match loadM c.cells with
  | none => (c, 8)
  | some h => if h.size = 0 then (c, 11) else if (h.got.size : Int) < h.size then (c, 12) else if verB h.got < 0 then (c, 6)
    else if verB h.got < h.floor then (c, 13) else (c.prims (saveOps c.cells ⟨h.good, h.floor, h.got, 3, 0, tx []⟩), 0)

/-- The document's answer. -/
structure RefS where
  made : Bool
  h : HeldS
def RefS.format (r : RefS) (img : ByteArray) : RefS × Int := if r.made then (r, 7) else if verB img < 0 then (r, 6) else (⟨true, img, verB img, tx [], 0, 0, tx []⟩, 0)
def RefS.stage (r : RefS) (n : Int) : RefS × Int := if n < 1 ∨ 120 < n then (r, 9) else if r.h.trial.size ≠ 0 then (r, 10) else (⟨r.made, { r.h with size := n, got := tx [] }⟩, 0)
def RefS.write (r : RefS) (d : ByteArray) : RefS × Int := if r.h.size = 0 then (r, 11) else if d.size = 0 ∨ 8 < d.size ∨ r.h.size < r.h.got.size + d.size then (r, 9) else (⟨r.made, { r.h with got := r.h.got ++ d }⟩, 0)
def RefS.activate (r : RefS) : RefS × Int := if r.h.size = 0 then (r, 11) else if (r.h.got.size : Int) < r.h.size then (r, 12) else if verB r.h.got < 0 then (r, 6) else if verB r.h.got < r.h.floor then (r, 13) else (⟨r.made, { r.h with trial := r.h.got, tries := 3, size := 0, got := tx [] }⟩, 0)
structure Rel (c : ChipS) (r : RefS) : Prop where
  live : Live c
  no : r.made = false → loadM c.cells = none
  yes : r.made = true → loadM c.cells = some r.h ∧ r.h.ok
/-- an answer of the chip beside the document's -/
structure Fits (c : ChipS) (a : ChipS × Int) (b : RefS × Int) : Prop where
  err : a.2 = b.2
  rel : Rel a.1 b.1
  ops : ∃ n : Nat, n ≤ 64 ∧ a.1.ops = c.ops + n
theorem Rel.same {c : ChipS} {r : RefS} (h : Rel c r) (e : Int) : Fits c (c, e) (r, e) := ⟨rfl, h, 0, by omega, by simp⟩
theorem tx_size (l : List UInt8) : (tx l).size = l.length := by simp [tx, ByteArray.size]
theorem Rel.saved {c : ChipS} {r : RefS} (h : Rel c r) (hm : r.made = true) (x : HeldS) (hx : x.ok) (e : Int) : Fits c (c.prims (saveOps c.cells x), e) (⟨true, x⟩, e) := by
  obtain ⟨k1, k2⟩ := h.yes hm
  obtain ⟨q1, q2, q3⟩ := load_save c h.live x r.h hx k1
  exact ⟨rfl, ⟨q1, fun hh => (Bool.noConfusion hh), fun _ => ⟨q2, hx⟩⟩, q3⟩
theorem Rel.format {c : ChipS} {r : RefS} (h : Rel c r) (img : ByteArray) : Fits c (formatM c img) (r.format img) := by
  unfold formatM RefS.format
  cases hm : r.made with
  | true =>
    rw [(h.yes hm).1]
    exact h.same 7
  | false =>
    rw [h.no hm]
    simp only [Bool.false_eq_true, if_false]
    by_cases hv : verB img < 0
    · rw [if_pos hv, if_pos hv]; exact h.same 6
    · rw [if_neg hv, if_neg hv]
      have hok : HeldS.ok ⟨img, verB img, tx [], 0, 0, tx []⟩ := by
        refine ⟨?_, by show 0 ≤ verB img; omega, Int.le_refl _, Int.le_refl _, fun _ => rfl, fun _ => rfl⟩
        simp [HeldS.lawful, tx_size]
      obtain ⟨q1, q2, q3⟩ := load_create c h.live _ hok
      exact ⟨rfl, ⟨q1, fun hh => (Bool.noConfusion hh), fun _ => ⟨q2, hok⟩⟩, q3⟩
theorem HeldS.ok.good {h : HeldS} (k : h.ok) : decide (verB h.good < h.floor) = false := by
  have := k.img
  simp; omega
theorem Rel.stage {c : ChipS} {r : RefS} (h : Rel c r) (hm : r.made = true) (n : Int) : Fits c (stageM c n) (r.stage n) := by
  unfold stageM RefS.stage
  by_cases hn : n < 1 ∨ 120 < n
  · rw [if_pos hn, if_pos hn]; exact h.same 9
  · obtain ⟨k1, k2⟩ := h.yes hm
    rw [if_neg hn, if_neg hn, k1]
    simp only
    by_cases ht : r.h.trial.size ≠ 0
    · rw [if_pos ht, if_pos ht]; exact h.same 10
    · rw [if_neg ht, if_neg ht]
      have e1 : r.h.trial = tx [] := empty_of_size (by omega)
      have key : r.h.tries = 0 ∨ 0 < r.h.size := by
        have hl := k2.law
        simp only [HeldS.lawful, Bool.and_eq_true] at hl
        have hl := hl.2
        split at hl
        · right; assumption
        · rw [if_pos (by omega)] at hl; left; simpa using hl
      have key2 : r.h.tries = 0 := by
        rcases key with e | e
        · exact e
        · have hl := k2.law
          simp only [HeldS.lawful, Bool.and_eq_true] at hl
          have hl := hl.2
          rw [if_pos e] at hl
          simp only [Bool.and_eq_true, decide_eq_true_eq] at hl
          exact hl.2
      have E : (⟨r.h.good, r.h.floor, r.h.trial, r.h.tries, n, tx []⟩ : HeldS) = ⟨r.h.good, r.h.floor, tx [], 0, n, tx []⟩ := by rw [e1, key2]
      show Fits c (c.prims (saveOps c.cells ⟨r.h.good, r.h.floor, tx [], 0, n, tx []⟩), 0) (⟨r.made, ⟨r.h.good, r.h.floor, r.h.trial, r.h.tries, n, tx []⟩⟩, 0)
      rw [E, hm]
      refine h.saved hm ⟨r.h.good, r.h.floor, tx [], 0, n, tx []⟩ ⟨?_, k2.fl, Int.le_refl _, by show 0 ≤ n; omega, fun _ => rfl, fun _ => rfl⟩ 0
      have hg := k2.good
      simp only [HeldS.lawful, hg]
      have : 0 < n := by omega
      simp [this, tx_size]; omega
theorem Rel.write {c : ChipS} {r : RefS} (h : Rel c r) (hm : r.made = true) (d : ByteArray) : Fits c (writeM c d) (r.write d) := by
  unfold writeM RefS.write
  obtain ⟨k1, k2⟩ := h.yes hm
  rw [k1]
  simp only
  by_cases hs : r.h.size = 0
  · rw [if_pos hs, if_pos hs]; exact h.same 11
  · rw [if_neg hs, if_neg hs]
    by_cases hd : d.size = 0 ∨ 8 < d.size ∨ r.h.size < r.h.got.size + d.size
    · rw [if_pos hd, if_pos (by omega)]; exact h.same 9
    · rw [if_neg hd, if_neg (by omega), hm]
      have hz := k2.sz
      refine h.saved hm ⟨r.h.good, r.h.floor, r.h.trial, r.h.tries, r.h.size, r.h.got ++ d⟩ ⟨?_, k2.fl, k2.tr, k2.sz, k2.a, fun e => absurd e hs⟩ 0
      have hg := k2.good
      have hl := k2.law
      simp only [HeldS.lawful, Bool.and_eq_true, if_pos (show 0 < r.h.size by omega), decide_eq_true_eq] at hl
      simp only [HeldS.lawful, hg, if_pos (show 0 < r.h.size by omega), Bool.and_eq_true, decide_eq_true_eq, ByteArray.size_append]
      refine ⟨rfl, ⟨hl.2.1.1, ?_⟩, hl.2.2⟩
      omega
theorem Rel.activate {c : ChipS} {r : RefS} (h : Rel c r) (hm : r.made = true) : Fits c (activM c) r.activate := by
  unfold activM RefS.activate
  obtain ⟨k1, k2⟩ := h.yes hm
  rw [k1]
  simp only
  by_cases h1 : r.h.size = 0
  · rw [if_pos h1, if_pos h1]; exact h.same 11
  rw [if_neg h1, if_neg h1]
  by_cases h2 : (r.h.got.size : Int) < r.h.size
  · rw [if_pos h2, if_pos h2]; exact h.same 12
  rw [if_neg h2, if_neg h2]
  by_cases h3 : verB r.h.got < 0
  · rw [if_pos h3, if_pos h3]; exact h.same 6
  rw [if_neg h3, if_neg h3]
  by_cases h4 : verB r.h.got < r.h.floor
  · rw [if_pos h4, if_pos h4]; exact h.same 13
  rw [if_neg h4, if_neg h4, hm]
  have hg := k2.good
  refine h.saved hm ⟨r.h.good, r.h.floor, r.h.got, 3, 0, tx []⟩ ⟨?_, k2.fl, by show (0 : Int) ≤ 3; omega, Int.le_refl _, fun e => by simp at e, fun _ => rfl⟩ 0
  simp only [HeldS.lawful, hg]
  have : ¬ r.h.got.size = 0 := by have := k2.sz; omega
  simp [this]; omega
end Go.Proofs.YtpfdfpeomofabaaDoor
