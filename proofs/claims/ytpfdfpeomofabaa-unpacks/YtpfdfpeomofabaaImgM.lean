namespace Go.Proofs.Ytpfdfpeomofabaa

/-! The plain model of images: no Go in sight. -/
structure Seg where
  addr : Int
  size : Int
  data : ByteArray

def Seg.fits (s : Seg) : Bool := decide (0 ≤ s.addr) && decide (1 ≤ s.size) && decide (s.addr ≤ 128 - s.size) && decide ((s.data.size : Int) ≤ s.size)
theorem Seg.fits_iff (s : Seg) : s.fits = true ↔ 0 ≤ s.addr ∧ 1 ≤ s.size ∧ s.addr ≤ 128 - s.size ∧ (s.data.size : Int) ≤ s.size := by
  simp [Seg.fits, and_assoc]

/-- A picture of the memory: 128 addresses. -/
structure Mem where
  cov : List Bool
  byt : List UInt8

def Mem.c (m : Mem) (a : Nat) : Bool := m.cov.getD a false
def Mem.b (m : Mem) (a : Nat) : UInt8 := m.byt.getD a 0
def Mem.wf (m : Mem) : Prop := m.cov.length = 128 ∧ m.byt.length = 128
def mem0 : Mem := ⟨List.replicate 128 false, List.replicate 128 0⟩

/-- byte i of a segment is laid -/
def Mem.put (m : Mem) (a : Nat) (d : ByteArray) (i : Nat) : Mem :=
  ⟨m.cov.set (a + i) true, if i < d.size then m.byt.set (a + i) (d.data.toList.getD i 0) else m.byt⟩
def Mem.putN (m : Mem) (a : Nat) (d : ByteArray) : Nat → Mem
  | 0 => m
  | k + 1 => (m.putN a d k).put a d k
def Mem.freeN (m : Mem) (a : Nat) (d : ByteArray) : Nat → Bool
  | 0 => true
  | k + 1 => m.freeN a d k && !(m.putN a d k).c (a + k)

def Mem.freeS (m : Mem) (s : Seg) : Bool := m.freeN s.addr.toNat s.data s.size.toNat
def Mem.putS (m : Mem) (s : Seg) : Mem := m.putN s.addr.toNat s.data s.size.toNat
def Mem.step (m : Mem) (s : Seg) : Option Mem := if s.fits && m.freeS s then some (m.putS s) else none
def layAll (l : List Seg) : Option Mem := l.foldlM Mem.step mem0
def allFit (l : List Seg) : Bool := decide (1 ≤ l.length) && decide (l.length ≤ 8) && l.all Seg.fits

theorem Mem.putN_wf {m : Mem} (h : m.wf) (a : Nat) (d : ByteArray) (k : Nat) : (m.putN a d k).wf := by
  induction k with
  | zero => exact h
  | succ k ih =>
    obtain ⟨h1, h2⟩ := ih
    refine ⟨by simp [Mem.putN, Mem.put, h1], ?_⟩
    simp only [Mem.putN, Mem.put]
    split <;> simp [h2]
theorem mem0_wf : mem0.wf := ⟨by simp [mem0], by simp [mem0]⟩

/-- where the stretch that is covered ends, and behind which byte nothing but noughts comes -/
def endUp (m : Mem) : Nat → Nat → Nat
  | 0, e => e
  | k + 1, e => if m.c e = true then endUp m k (e + 1) else e
def endFrom (m : Mem) (e : Nat) : Nat := endUp m (128 - e) e
def dataUp (m : Mem) : Nat → Nat → Nat → Nat
  | 0, _, d => d
  | k + 1, e, d => if m.c e = true then dataUp m k (e + 1) (if m.b e = 0 then d else e + 1) else d
def dataFrom (m : Mem) (e d : Nat) : Nat := dataUp m (128 - e) e d
theorem endFrom_eq (m : Mem) (e : Nat) : endFrom m e = if e < 128 ∧ m.c e = true then endFrom m (e + 1) else e := by
  unfold endFrom
  by_cases h : e < 128
  · rw [show 128 - e = (128 - (e + 1)) + 1 by omega]
    simp only [endUp, h, true_and]
  · rw [show 128 - e = 0 by omega, if_neg (fun x => h x.1)]
    rfl
theorem dataFrom_eq (m : Mem) (e d : Nat) : dataFrom m e d = if e < 128 ∧ m.c e = true then dataFrom m (e + 1) (if m.b e = 0 then d else e + 1) else d := by
  unfold dataFrom
  by_cases h : e < 128
  · rw [show 128 - e = (128 - (e + 1)) + 1 by omega]
    simp only [dataUp, h, true_and]
  · rw [show 128 - e = 0 by omega, if_neg (fun x => h x.1)]
    rfl
/-- From the memory's end on downward. -/
theorem up_ind {p : Nat → Prop} (h : ∀ e, (e < 128 → p (e + 1)) → p e) (e : Nat) : p e := by
  have : ∀ k e, 128 ≤ e + k → p e := by
    intro k
    induction k with
    | zero => intro e he; exact h e (fun hl => absurd hl (by omega))
    | succ k ih => intro e he; exact h e (fun _ => ih (e + 1) (by omega))
  exact this 128 e (by omega)

def runOf (m : Mem) (a : Nat) : Seg := ⟨a, (endFrom m a : Int) - a, ⟨((m.byt.drop a).take (dataFrom m a a - a)).toArray⟩⟩
def isStart (m : Mem) (a : Nat) : Bool := m.c a && !(decide (0 < a) && m.c (a - 1))
def runsTo (m : Mem) (n : Nat) : List Seg := ((List.range n).filter (isStart m)).map (runOf m)
def runsOf (m : Mem) : List Seg := runsTo m 128

theorem endFrom_ge (m : Mem) (e : Nat) : e ≤ endFrom m e := by
  refine up_ind (p := fun e => e ≤ endFrom m e) (fun e ih => ?_) e
  show e ≤ endFrom m e
  rw [endFrom_eq]
  by_cases g : e < 128 ∧ m.c e = true
  · rw [if_pos g]
    have : e + 1 ≤ endFrom m (e + 1) := ih g.1
    omega
  · rw [if_neg g]
    omega
theorem endFrom_le (m : Mem) (e : Nat) (h : e ≤ 128) : endFrom m e ≤ 128 := by
  refine up_ind (p := fun e => e ≤ 128 → endFrom m e ≤ 128) (fun e ih h => ?_) e h
  show endFrom m e ≤ 128
  rw [endFrom_eq]
  by_cases g : e < 128 ∧ m.c e = true
  · rw [if_pos g]
    exact ih g.1 (by omega)
  · rw [if_neg g]
    exact h
theorem dataFrom_bd (m : Mem) (e d : Nat) (h : d ≤ e) (he : e ≤ 128) : d ≤ dataFrom m e d ∧ dataFrom m e d ≤ endFrom m e := by
  refine up_ind (p := fun e => ∀ d, d ≤ e → e ≤ 128 → d ≤ dataFrom m e d ∧ dataFrom m e d ≤ endFrom m e) (fun e ih d h he => ?_) e d h he
  show d ≤ dataFrom m e d ∧ dataFrom m e d ≤ endFrom m e
  rw [dataFrom_eq, endFrom_eq]
  by_cases g : e < 128 ∧ m.c e = true
  · rw [if_pos g, if_pos g]
    obtain ⟨h1, h2⟩ := ih g.1 (if m.b e = 0 then d else e + 1) (by split <;> omega) (by omega)
    have h3 : d ≤ (if m.b e = 0 then d else e + 1) := by split <;> omega
    exact ⟨Nat.le_trans h3 h1, h2⟩
  · rw [if_neg g, if_neg g]
    omega

def byteOf (n : Int) : UInt8 := UInt8.ofNat (n % 256).toNat
def runBytes (s : Seg) : List UInt8 := [byteOf s.addr, byteOf s.size, byteOf s.data.size] ++ s.data.data.toList
def checkOf (l : List UInt8) : Nat := l.foldl (fun h b => (31 * h + b.toNat) % 65521) 1
def bodyOf (v e : Int) (l : List Seg) : List UInt8 := [84, 66, byteOf (v / 256), byteOf (v % 256), byteOf e, byteOf l.length] ++ l.flatMap runBytes
def textOf (v e : Int) (l : List Seg) : List UInt8 := bodyOf v e l ++ [byteOf (checkOf (bodyOf v e l) / 256 : Nat), byteOf (checkOf (bodyOf v e l) % 256 : Nat)]

theorem checkOf_lt (l : List UInt8) : checkOf l < 65521 := by
  unfold checkOf
  suffices ∀ h, h < 65521 → l.foldl (fun h b => (31 * h + b.toNat) % 65521) h < 65521 from this 1 (by decide)
  induction l with
  | nil => intro h hh; simpa using hh
  | cons b r ih => intro h _; exact ih _ (Nat.mod_lt _ (by decide))

/-- What Pack answers: the image, and the error's number. -/
def packM (v e : Int) (l : List Seg) : List UInt8 × Int :=
  if v < 0 ∨ 65535 < v then ([], 1)
  else if allFit l = false then ([], 2)
  else match layAll l with
    | none => ([], 3)
    | some m => if ¬ (0 ≤ e ∧ e < 128 ∧ m.c e.toNat = true) then ([], 4)
      else if 120 < (textOf v e (runsOf m)).length then ([], 5)
      else (textOf v e (runsOf m), 0)
end Go.Proofs.Ytpfdfpeomofabaa
