import Derived.Test.YtcokahccbjdeaaaRefC
namespace Go.Proofs.Ytcokahccbjdeaaa
open Go.RowKit

theorem lay_draw_aux (l : List Seg) (hf : ∀ s ∈ l, s.fits = true) : ∀ (m : Mem) (c : Bool), l.foldlM Mem.step m = (if (l.foldl drawStep (m, true)).2 then some (l.foldl drawStep (m, true)).1 else none) ∧ (l.foldl drawStep (m, c)).1 = (l.foldl drawStep (m, true)).1 ∧ (l.foldl drawStep (m, false)).2 = false := by
  induction l with
  | nil => intro m c; exact ⟨rfl, rfl, rfl⟩
  | cons s r ih =>
    intro m c
    have hs := hf s (by simp)
    have ih' := ih (fun x hx => hf x (by simp [hx]))
    have e1 : drawStep (m, true) s = (m.putS s, m.freeS s) := by simp [drawStep]
    have e2 : drawStep (m, c) s = (m.putS s, c && m.freeS s) := rfl
    have e3 : drawStep (m, false) s = (m.putS s, false) := by simp [drawStep]
    simp only [List.foldl_cons, List.foldlM_cons, e1, e2, e3]
    refine ⟨?_, ?_, (ih' _ false).2.2⟩
    · cases hfr : m.freeS s
      · have hst : m.step s = none := by simp [Mem.step, hfr]
        rw [hst, (ih' _ false).2.2]; rfl
      · have hst : m.step s = some (m.putS s) := by simp [Mem.step, hfr, hs]
        rw [hst]; exact (ih' _ true).1
    · rw [(ih' (m.putS s) (c && m.freeS s)).2.1, (ih' (m.putS s) (m.freeS s)).2.1]
theorem lay_draw (l : List Seg) (hf : ∀ s ∈ l, s.fits = true) : layAll l = if (drawAll l).2 then some (drawAll l).1 else none := (lay_draw_aux l hf mem0 true).1

theorem ck {w : World} {p : Addr} {u : Value} (h : w.cell? p = some u) (o : Obj) : (w.alloc o).cell? p = some u := by
  rw [World.cell?_of_block (w := w) (Below.heap_alloc w o _ (World.block_lt_of_cell? w p h))]; exact h
theorem ck0 {w : World} {p q r : Addr} {u v x : Value} (h1 : w.cell? p = some u) (h2 : w.cell? q = some v) (h3 : w.cell? r = some x) : w.drew.cell? p = some u ∧ w.drew.cell? q = some v ∧ w.drew.cell? r = some x := ⟨h1, h2, h3⟩
theorem ck1 {w : World} {p q r : Addr} {u v x : Value} (h1 : w.cell? p = some u) (h2 : w.cell? q = some v) (h3 : w.cell? r = some x) (a : Obj) : (w.alloc a).drew.cell? p = some u ∧ (w.alloc a).drew.cell? q = some v ∧ (w.alloc a).drew.cell? r = some x := ⟨ck h1 a, ck h2 a, ck h3 a⟩
theorem ck2 {w : World} {p q r : Addr} {u v x : Value} (h1 : w.cell? p = some u) (h2 : w.cell? q = some v) (h3 : w.cell? r = some x) (a b : Obj) : ((w.alloc a).alloc b).drew.cell? p = some u ∧ ((w.alloc a).alloc b).drew.cell? q = some v ∧ ((w.alloc a).alloc b).drew.cell? r = some x := ck1 (ck h1 a) (ck h2 a) (ck h3 a) b
theorem ck3 {w : World} {p q r : Addr} {u v x : Value} (h1 : w.cell? p = some u) (h2 : w.cell? q = some v) (h3 : w.cell? r = some x) (a b c : Obj) : (((w.alloc a).alloc b).alloc c).drew.cell? p = some u ∧ (((w.alloc a).alloc b).alloc c).drew.cell? q = some v ∧ (((w.alloc a).alloc b).alloc c).drew.cell? r = some x := ck2 (ck h1 a) (ck h2 a) (ck h3 a) b c

theorem store_pic {ops : Array Oper} {rest : List Oper} {o : Oper} {a : Act} {Q : Exit → Act → World → Prop} (w2 : World) (hgd : o.guard = none) (x y : Operand) (ho : o.op = .store 63 x y) (cells : Array Value)
    (hx : a.eval x = .pointer (some ⟨w2.heap.size, 0, none⟩)) (hy : a.eval y = .agg cells) (m : Mem) (hm : m.wf) (hc : cells = memV m)
    (h : ∀ w3, PicAt w3 w2.heap.size m → Below w2.heap.size w2 w3 → wpList Try.prog ops Q rest (a.put o.dst undef) w3) : wpList Try.prog ops Q (o :: rest) a (w2.alloc (.cells Try.zeroCells63 63)) := by
  subst hc
  have hs1 := memV_size hm
  have hsi : (Try.prog.info? 63).map (·.size) = some (memV m).size := by rw [hs1]; exact Try.size63
  have hs0 : Try.zeroCells63.size = 256 := by rw [zero63]; exact memV_size mem0_wf
  refine wpList_store_row hgd 63 x y ho w2.heap.size (memV m) hx hy 63 _ (heap_alloc_new w2 _) hsi (by rw [hs0, hs1]) (memV_one m) (h _ ⟨heap_setRow_at _ _ _ _ _ _ (heap_alloc_new w2 _), hm⟩ ?_)
  exact below_setRow2 ((Below.refl _ _).alloc (Nat.le_refl _) _) (Nat.le_refl _) _
theorem load_pic {ops : Array Oper} {rest : List Oper} {o : Oper} {a : Act} {Q : Exit → Act → World → Prop} (w : World) (hgd : o.guard = none) (x : Operand) (ho : o.op = .load 63 x) (g : Nat) (hx : a.eval x = .pointer (some ⟨g, 0, none⟩)) (m : Mem) (hp : PicAt w g m) (cells : Array Value) (hc : cells = memV m)
    (h : wpList Try.prog ops Q rest (a.put o.dst (.agg cells)) w) : wpList Try.prog ops Q (o :: rest) a w := by
  subst hc
  have hs1 := memV_size hp.wf
  exact wpList_load_row hgd 63 x ho g hx 63 _ (0, 0) _ hp.hb Try.underlying63 rfl (by rw [hs1]; exact Try.size63) h

set_option maxRecDepth 2000000 in
set_option maxHeartbeats 16000000 in
theorem refPack_any (w : World) (v e : Int) (a : Option Addr) (b o cap : Nat) (l : List Seg) (ha : l ≠ [] → a = some ⟨b, o, none⟩) (hl : SegsAt w b o l) (hok : ∀ s ∈ l, s.ok) (hb : l ≠ [] → b < w.heap.size) (hlen : l.length < 4611686018427387904) :
    Calls Try.prog 16 #[.int .i64 v, .int .i64 e, .slice a l.length cap] w fun en w' => en = .returned (.tuple #[.string (mk (packM v e l).1), .int .i64 (packM v e l).2]) ∧ Below w.heap.size w w' := by
  by_cases hv0 : v < 0
  · have hp : packM v e l = ([], 1) := by unfold packM; rw [if_pos (Or.inl hv0)]
    rw [hp]; clear hp
    go_enter Try.func16, Try.ntmps16
    go_wp2
    go_ret2
    exact ⟨rfl, Below.refl _ _⟩
  by_cases hv1 : 65535 < v
  · have hp : packM v e l = ([], 1) := by unfold packM; rw [if_pos (Or.inr hv1)]
    rw [hp]; clear hp
    go_enter Try.func16, Try.ntmps16
    go_wp2
    go_ret2
    exact ⟨rfl, Below.refl _ _⟩
  have hvv : ¬ (v < 0 ∨ 65535 < v) := by omega
  by_cases hl0 : l.length = 0
  · have haf : allFit l = false := by simp only [allFit]; rw [decide_eq_false (by omega)]; rfl
    have hp : packM v e l = ([], 2) := by unfold packM; rw [if_neg hvv, if_pos haf]
    rw [hp]; clear hp haf
    have hl0' : (l.length : Int) = 0 := by omega
    go_enter Try.func16, Try.ntmps16
    go_wp2
    go_ret2
    exact ⟨rfl, Below.refl _ _⟩
  by_cases hl8 : 8 < l.length
  · have haf : allFit l = false := by simp only [allFit]; rw [decide_eq_false (show ¬ l.length ≤ 8 by omega)]; simp
    have hp : packM v e l = ([], 2) := by unfold packM; rw [if_neg hvv, if_pos haf]
    rw [hp]; clear hp haf
    have hl0' : ((l.length : Int) == 0) = false := by simp only [beq_eq_false_iff_ne, ne_eq]; omega
    have hl8' : 8 < (l.length : Int) := by omega
    go_enter Try.func16, Try.ntmps16
    go_wp2
    go_ret2
    exact ⟨rfl, Below.refl _ _⟩
  have hne : l ≠ [] := by intro e; simp [e] at hl0
  obtain rfl := ha hne
  have hb' := hb hne
  clear ha hb
  have haf : allFit l = l.all Seg.fits := by simp only [allFit]; rw [decide_eq_true (show 1 ≤ l.length by omega), decide_eq_true (show l.length ≤ 8 by omega)]; simp
  have hl0' : ((l.length : Int) == 0) = false := by simp only [beq_eq_false_iff_ne, ne_eq]; omega
  have hl8' : ¬ 8 < (l.length : Int) := by omega
  have hlI : (l.length : Int) ≤ 8 := by omega
  have hP2 : Hid (l.all Seg.fits = false → packM v e l = ([], 2)) := fun hx => by unfold packM; rw [if_neg hvv, if_pos (by rw [haf]; exact hx)]
  have hP3 : Hid (l.all Seg.fits = true → (drawAll l).2 = false → packM v e l = ([], 3)) := fun hx hd => by
    unfold packM; rw [if_neg hvv, if_neg (by rw [haf, hx]; simp), lay_draw l (List.all_eq_true.1 hx), hd]; rfl
  have hP4 : Hid (l.all Seg.fits = true → (drawAll l).2 = true → packM v e l = (if ¬ (0 ≤ e ∧ e < 128 ∧ (drawAll l).1.c e.toNat = true) then ([], 4)
      else if 120 < (textOf v e (runsOf (drawAll l).1)).length then ([], 5)
      else (textOf v e (runsOf (drawAll l).1), 0))) := fun hx hd => by
    unfold packM; rw [if_neg hvv, if_neg (by rw [haf, hx]; simp), lay_draw l (List.all_eq_true.1 hx), hd, if_pos rfl]
  clear haf hl0
  go_enter Try.func16, Try.ntmps16
  go_wp2
  go_loopw [8, 9] (fun i _ wr => ∃ k : Nat, k ≤ l.length ∧ i = .int .i64 k ∧ Hid ((l.take k).all Seg.fits = true) ∧ Below w.heap.size w wr) (fun i _ _ => l.length - (intOf i).toNat)
  case atStart => exact ⟨0, by omega, rfl, rfl, Below.refl _ _⟩
  case round =>
    obtain ⟨k, hk, rfl, hfit, hbel⟩ := hrel
    by_cases hlt : k < l.length
    · obtain ⟨c1, c2, c3⟩ := hl k hlt
      have d1 : wr.cell? ⟨b, o + k * 3, none⟩ = some (.int .i64 l[k].addr) := (hbel.cell (p := ⟨b, o + k * 3, none⟩) hb').trans c1
      have d2 : wr.cell? ⟨b, o + k * 3 + 1, none⟩ = some (.int .i64 l[k].size) := (hbel.cell (p := ⟨b, o + k * 3 + 1, none⟩) hb').trans c2
      have d3 : wr.cell? ⟨b, o + k * 3 + 2, none⟩ = some (.string l[k].data) := (hbel.cell (p := ⟨b, o + k * 3 + 2, none⟩) hb').trans c3
      clear c1 c2 c3 hP3 hP4
      have hsok := hok l[k] (List.getElem_mem hlt)
      cases hfk : l[k].fits
      · have hall : Hid (packM v e l = ([], 2)) := by
          apply hP2.out
          rw [Bool.eq_false_iff, ne_eq, List.all_eq_true]
          intro h
          have := h l[k] (List.getElem_mem hlt)
          rw [hfk] at this; cases this
        clear hP2
        go_wp2_with (go_at_call 45; refine (proper_any wr l[k] hsok).mono ?_; rintro en w2 ⟨rfl, hb2⟩; rw [hfk])
        go_ret2
        exact ⟨by rw [hall.out]; rfl, hbel.trans (hb2.mono hbel.size)⟩
      · have hall : Hid ((l.take (k + 1)).all Seg.fits = true) := by
          unfold Hid
          rw [List.take_succ_eq_append_getElem hlt, List.all_append, hfit.out]; simp [hfk]
        clear hP2
        go_wp2_with (go_at_call 45; refine (proper_any wr l[k] hsok).mono ?_; rintro en w2 ⟨rfl, hb2⟩; rw [hfk])
        go_roundw
        case rel => exact ⟨k + 1, by omega, by go_num, hall, hbel.trans (hb2.mono hbel.size)⟩
        case measure => simp [intOf]; omega
    · have hall : l.all Seg.fits = true := by
        have := hfit.out
        rwa [List.take_of_length_le (by omega)] at this
      have hQ3 : Hid ((drawAll l).2 = false → packM v e l = ([], 3)) := hP3.out hall
      have hQ4 := hP4.out hall
      have HQ4 : Hid ((drawAll l).2 = true → packM v e l = (if ¬ (0 ≤ e ∧ e < 128 ∧ (drawAll l).1.c e.toNat = true) then ([], 4)
        else if 120 < (textOf v e (runsOf (drawAll l).1)).length then ([], 5)
        else (textOf v e (runsOf (drawAll l).1), 0))) := hQ4
      have hDR := drawn_any wr (some ⟨b, o, none⟩) b o cap l (fun _ => rfl) (fun i hi => by
        obtain ⟨c1, c2, c3⟩ := hl i hi
        exact ⟨(hbel.cell (p := ⟨b, o + i * 3, none⟩) hb').trans c1, (hbel.cell (p := ⟨b, o + i * 3 + 1, none⟩) hb').trans c2, (hbel.cell (p := ⟨b, o + i * 3 + 2, none⟩) hb').trans c3⟩) (List.all_eq_true.1 hall) (fun _ => Nat.lt_of_lt_of_le hb' hbel.size) (by omega)
      have hmw := drawAll_wf l
      clear hP2 hP3 hP4 hQ4 hall hfit hl hok
      generalize drawAll l = p at *
      obtain ⟨m, c⟩ := p
      dsimp only at hDR hmw
      obtain ⟨cells, hcl⟩ : ∃ cells, cells = memV m := ⟨_, rfl⟩
      have HCL : Hid (cells = memV m) := hcl
      rw [← hcl] at hDR
      clear hcl
      cases c
      · have hp := hQ3.out rfl
        have HP : Hid (packM v e l = ([], 3)) := hp
        clear hp hQ3 HQ4
        go_wp2_with (first
        | (go_at_call 46; refine hDR.mono ?_; rintro en w2 ⟨rfl, hb2⟩; have hbW := hbel.trans (hb2.mono hbel.size))
        | (with_reducible show wpList _ _ _ ({ dst := _, op := Op.store _ _ _, type := _, pos := _, after := _, guard := _ } :: _) _ (World.alloc w2 _); refine store_pic w2 rfl _ _ rfl cells rfl rfl m hmw HCL.out ?_; intro w3 hpic hb3'; have hb3 := hbW.trans (hb3'.mono hbW.size)))
        go_ret2
        exact ⟨by rw [HP.out]; rfl, hb3⟩
      · have hQ5 := HQ4.out rfl
        dsimp only at hQ5
        clear hQ3 HQ4
        by_cases he0 : e < 0
        · rw [if_pos (by omega)] at hQ5
          have HP : Hid (packM v e l = ([], 4)) := hQ5
          clear hQ5
          go_wp2_with (first
        | (go_at_call 46; refine hDR.mono ?_; rintro en w2 ⟨rfl, hb2⟩; have hbW := hbel.trans (hb2.mono hbel.size))
        | (with_reducible show wpList _ _ _ ({ dst := _, op := Op.store _ _ _, type := _, pos := _, after := _, guard := _ } :: _) _ (World.alloc w2 _); refine store_pic w2 rfl _ _ rfl cells rfl rfl m hmw HCL.out ?_; intro w3 hpic hb3'; have hb3 := hbW.trans (hb3'.mono hbW.size)))
          go_ret2
          exact ⟨by rw [HP.out]; rfl, hb3⟩
        by_cases he1 : 128 ≤ e
        · rw [if_pos (by omega)] at hQ5
          have HP : Hid (packM v e l = ([], 4)) := hQ5
          clear hQ5
          go_wp2_with (first
        | (go_at_call 46; refine hDR.mono ?_; rintro en w2 ⟨rfl, hb2⟩; have hbW := hbel.trans (hb2.mono hbel.size))
        | (with_reducible show wpList _ _ _ ({ dst := _, op := Op.store _ _ _, type := _, pos := _, after := _, guard := _ } :: _) _ (World.alloc w2 _); refine store_pic w2 rfl _ _ rfl cells rfl rfl m hmw HCL.out ?_; intro w3 hpic hb3'; have hb3 := hbW.trans (hb3'.mono hbW.size)))
          go_ret2
          exact ⟨by rw [HP.out]; rfl, hb3⟩
        obtain ⟨e, rfl⟩ : ∃ k : Nat, e = k := ⟨e.toNat, by omega⟩
        have he2 : (e : Int) < 128 := by omega
        cases hce : m.c e
        · rw [if_pos (by rw [Int.toNat_natCast, hce]; simp)] at hQ5
          have HP : Hid (packM v e l = ([], 4)) := hQ5
          have HCE : Hid (m.c e = false) := hce
          clear hQ5 hce
          go_wp2_with (first
        | (go_at_call 46; refine hDR.mono ?_; rintro en w2 ⟨rfl, hb2⟩; have hbW := hbel.trans (hb2.mono hbel.size))
        | (with_reducible show wpList _ _ _ ({ dst := _, op := Op.store _ _ _, type := _, pos := _, after := _, guard := _ } :: _) _ (World.alloc w2 _); refine store_pic w2 rfl _ _ rfl cells rfl rfl m hmw HCL.out ?_; intro w3 hpic hb3'; have hb3 := hbW.trans (hb3'.mono hbW.size); have hcv := hpic.cov e (by omega); rw [HCE.out] at hcv))
          go_ret2
          exact ⟨by rw [HP.out]; rfl, hb3⟩
        · rw [if_neg (by rw [Int.toNat_natCast, hce]; simp [he2])] at hQ5
          have HCE : Hid (m.c e = true) := hce
          have HQ5 : Hid (packM v e l = if 120 < (textOf v e (runsOf m)).length then ([], 5) else (textOf v e (runsOf m), 0)) := hQ5
          clear hQ5 hce
          have hRR := fun w3 => refRuns_any w3 m hmw
          rw [← HCL.out] at hRR
          have hro := runsOf_ok hmw
          have hrl' : (runsOf m).length ≤ 128 := runsTo_length m 128
          obtain ⟨rs, hrs⟩ : ∃ rs, rs = runsOf m := ⟨_, rfl⟩
          rw [← hrs] at HQ5 hRR hro hrl'
          clear hrs
          have hT2 := fun w4 => two_any w4 v (by omega) (by omega)
          have hO1 := fun w4 => one_bel w4 (e : Int)
          have hO2 := fun w4 => one_bel w4 (rs.length : Int)
          go_wp2_with (first
        | (go_at_call 46; refine hDR.mono ?_; rintro en w2 ⟨rfl, hb2⟩; have hbW := hbel.trans (hb2.mono hbel.size))
        | (with_reducible show wpList _ _ _ ({ dst := _, op := Op.store _ _ _, type := _, pos := _, after := _, guard := _ } :: _) _ (World.alloc w2 _); refine store_pic w2 rfl _ _ rfl cells rfl rfl m hmw HCL.out ?_; intro w3 hpic hb3'; have hb3 := hbW.trans (hb3'.mono hbW.size); have hcv := hpic.cov e (by omega); rw [HCE.out] at hcv)
            | (with_reducible show wpList _ _ _ ({ dst := _, op := Op.load 63 _, type := _, pos := _, after := _, guard := _ } :: _) _ w3; refine load_pic w3 rfl _ rfl w2.heap.size rfl m hpic cells HCL.out ?_)
            | (go_at_call 47; refine (hRR _).mono ?_; rintro en w4 ⟨v4, rfl, hown, hb4⟩; obtain ⟨_, a1, b1, cap1, rfl, r1, r2, r3, _, _⟩ := SegsAt_of_own hown))
          have hmsz := mk_size
          obtain ⟨hd, hhd⟩ : ∃ hd, hd = [84, 66, byteOf (v / 256), byteOf (v % 256), byteOf (e : Int), byteOf rs.length] := ⟨_, rfl⟩
          have hdl : hd.length = 6 := by rw [hhd]; rfl
          have HB : Hid (bodyOf v e rs = hd ++ rs.flatMap runBytes) := by unfold Hid; rw [hhd]; rfl
          have HH : Hid ((⟨#[84, 66]⟩ : ByteArray) ++ mk [byteOf (v / 256), byteOf (v % 256)] ++ mk [byteOf (e : Int)] ++ mk [byteOf (rs.length : Int)] = mk hd) := by
            unfold Hid; rw [show (⟨#[84, 66]⟩ : ByteArray) = mk [84, 66] from rfl, mk_append, mk_append, mk_append, hhd]; rfl
          have HT : Hid (textOf v e rs = bodyOf v e rs ++ [byteOf (checkOf (bodyOf v e rs) / 256 : Nat), byteOf (checkOf (bodyOf v e rs) % 256 : Nat)]) := rfl
          clear hhd
          have hb4' := hb3.trans (hb4.mono hb3.size)
          go_wp2_with (first
            | (go_at_call 48; refine (hT2 _).mono ?_; rintro en w5 ⟨rfl, hb5⟩; clear hT2)
            | (go_at_call 49; refine (hO1 _).mono ?_; rintro en w6 ⟨rfl, hb6⟩; clear hO1)
            | (go_at_call 49; refine (hO2 _).mono ?_; rintro en w7 ⟨rfl, hb7⟩))
          have hb7' : Below w4.heap.size w4 w7 := (hb5.trans (hb6.mono hb5.size)).trans (hb7.mono (Nat.le_trans hb5.size hb6.size))
          have hbT : Below w.heap.size w w7 := hb4'.trans (hb7'.mono hb4'.size)
          have r2' : SegsAt w7 b1 0 rs := by
            intro i hi
            have hne : rs ≠ [] := by intro e; simp [e] at hi
            obtain ⟨c1, c2, c3⟩ := r2 i hi
            exact ⟨(hb7'.cell (p := ⟨b1, 0 + i * 3, none⟩) (r3 hne).1).trans c1, (hb7'.cell (p := ⟨b1, 0 + i * 3 + 1, none⟩) (r3 hne).1).trans c2, (hb7'.cell (p := ⟨b1, 0 + i * 3 + 2, none⟩) (r3 hne).1).trans c3⟩
          have r3' : rs ≠ [] → b1 < w7.heap.size := fun h => Nat.lt_of_lt_of_le (r3 h).1 hb7'.size
          clear hb5 hb6 hb7 hb7' hb4' hb4 hb3 hb3' hbW hb2 hbel r2 r3 hown hpic hcv hRR hDR hO2 hb'
          rw [HH.out]
          go_loopw [13, 14] (fun t i wr => ∃ k : Nat, k ≤ rs.length ∧ i = .int .i64 k ∧ (∃ q : ByteArray, t = .string q ∧ q.size ≤ 20000 ∧ Hid (q = mk (hd ++ (rs.take k).flatMap runBytes))) ∧ Below w7.heap.size w7 wr) (fun _ i _ => rs.length - (intOf i).toNat)
          case atStart => exact ⟨0, by omega, rfl, ⟨_, rfl, by rw [mk_size, hdl]; omega, by simp [Hid]⟩, Below.refl _ _⟩
          case round =>
            obtain ⟨k, hk, rfl, ⟨q, rfl, hq, hqe⟩, hbl⟩ := hrel
            have hlenI : (rs.length : Int) ≤ 128 := by omega
            by_cases hlt : k < rs.length
            · have hne : rs ≠ [] := by intro e; simp [e] at hlt
              obtain rfl := r1 hne
              have hb1 := r3' hne
              obtain ⟨c1, c2, c3⟩ := r2' k hlt
              have d1 : wr.cell? ⟨b1, k * 3, none⟩ = some (.int .i64 rs[k].addr) := by have := (hbl.cell (p := ⟨b1, 0 + k * 3, none⟩) hb1).trans c1; rwa [Nat.zero_add] at this
              have d2 : wr.cell? ⟨b1, k * 3 + 1, none⟩ = some (.int .i64 rs[k].size) := by have := (hbl.cell (p := ⟨b1, 0 + k * 3 + 1, none⟩) hb1).trans c2; rwa [Nat.zero_add] at this
              have d3 : wr.cell? ⟨b1, k * 3 + 2, none⟩ = some (.string rs[k].data) := by have := (hbl.cell (p := ⟨b1, 0 + k * 3 + 2, none⟩) hb1).trans c3; rwa [Nat.zero_add] at this
              clear c1 c2 c3
              have hsok := hro rs[k] (List.getElem_mem hlt)
              have hq2 : Hid (q ++ mk [byteOf rs[k].addr] ++ mk [byteOf rs[k].size] ++ mk [byteOf (rs[k].data.size : Int)] ++ rs[k].data = mk (hd ++ (rs.take (k + 1)).flatMap runBytes)) := by
                unfold Hid
                rw [hqe.out, mk_append, mk_append, mk_append]
                conv => lhs; rw [← mk_list rs[k].data]
                rw [mk_append, List.take_succ_eq_append_getElem hlt, List.flatMap_append]
                congr 1
                simp [runBytes, List.append_assoc, mk_list]
              have hq3 : Hid ((mk (hd ++ (rs.take (k + 1)).flatMap runBytes)).size ≤ 20000) := by
                unfold Hid
                rw [mk_size, List.length_append, hdl]
                have := flat_len (rs.take (k + 1)) 128 (fun s hs => (hro s (List.mem_of_mem_take hs)).2)
                have hlt2 : (rs.take (k + 1)).length ≤ 128 := by simp; omega
                have : (rs.take (k + 1)).length * 131 ≤ 128 * 131 := Nat.mul_le_mul_right _ hlt2
                omega
              generalize rs[k] = sg at *
              obtain ⟨x, z, d⟩ := sg
              have hd128 : d.size ≤ 128 := hsok.2
              dsimp only at d1 d2 d3 hq2
              have hb1' : b1 < wr.heap.size := Nat.lt_of_lt_of_le hb1 hbl.size
              clear hsok hro r2' r3' r1
              have O1 := fun wx => one_any wx x
              have O2 := fun wx => one_any wx z
              have O3 := fun wx => one_any wx (d.size : Int)
              obtain ⟨o1, ho1⟩ : ∃ o1, o1 = mk [byteOf x] := ⟨_, rfl⟩
              obtain ⟨o2, ho2⟩ : ∃ o2, o2 = mk [byteOf z] := ⟨_, rfl⟩
              obtain ⟨o3, ho3⟩ : ∃ o3, o3 = mk [byteOf (d.size : Int)] := ⟨_, rfl⟩
              have z1 : o1.size = 1 := by rw [ho1, mk_size]; rfl
              have z2 : o2.size = 1 := by rw [ho2, mk_size]; rfl
              have z3 : o3.size = 1 := by rw [ho3, mk_size]; rfl
              rw [← ho1] at O1 hq2
              rw [← ho2] at O2 hq2
              rw [← ho3] at O3 hq2
              have A1 := fun wx => run_string_add_sum (P := Try.prog) wx q o1 (by omega)
              have A2 := fun wx => run_string_add_sum (P := Try.prog) wx (q ++ o1) o2 (by rw [ByteArray.size_append]; omega)
              have A3 := fun wx => run_string_add_sum (P := Try.prog) wx (q ++ o1 ++ o2) o3 (by rw [ByteArray.size_append, ByteArray.size_append]; omega)
              have A4 := fun wx => run_string_add_sum (P := Try.prog) wx (q ++ o1 ++ o2 ++ o3) d (by rw [ByteArray.size_append, ByteArray.size_append, ByteArray.size_append]; omega)
              clear ho1 ho2 ho3 z1 z2 z3 hmsz
              go_wp2
              go_region_held3 (fun w' => w'.cell? ⟨b1, k * 3, none⟩ = some (.int .i64 x) ∧ w'.cell? ⟨b1, k * 3 + 1, none⟩ = some (.int .i64 z) ∧ w'.cell? ⟨b1, k * 3 + 2, none⟩ = some (.string d)) ((first | exact ck0 d1 d2 d3 | exact ck1 d1 d2 d3 _ | exact ck2 d1 d2 d3 _ _ | exact ck3 d1 d2 d3 _ _ _))
                (first
                  | (go_at_call 49; refine (O1 _).mono ?_; rintro en w' ⟨rfl, rfl⟩)
                  | (go_at_call 49; refine (O2 _).mono ?_; rintro en w' ⟨rfl, rfl⟩)
                  | (go_at_call 49; refine (O3 _).mono ?_; rintro en w' ⟨rfl, rfl⟩))
              all_goals go_wp2
              go_roundw
              case rel =>
                refine ⟨k + 1, by omega, by go_num, ⟨_, rfl, ?_, hq2⟩, ?_⟩
                · rw [hq2.out]; exact hq3.out
                · exact (((hbl.alloc hbl.size _).alloc (by have := hbl.size; simp; omega) _).alloc (by have := hbl.size; simp; omega) _).drew
              case measure => simp [intOf]; omega
            · have hqb : Hid (q = mk (bodyOf v e rs)) := by
                unfold Hid; rw [hqe.out, List.take_of_length_le (by omega), HB.out]
              have hql : Hid (q.data.toList = bodyOf v e rs) := by unfold Hid; rw [hqb.out, mk_data]
              have hqn : Hid (q.size = (bodyOf v e rs).length) := by unfold Hid; rw [hqb.out, mk_size]
              obtain ⟨x, hx⟩ : ∃ x, x = checkOf (bodyOf v e rs) := ⟨_, rfl⟩
              have HX : Hid (x = checkOf (bodyOf v e rs)) := hx
              have hxl : (x : Int) < 65521 := by have := checkOf_lt (bodyOf v e rs); omega
              have HF : Hid (q ++ mk [byteOf ((x : Int) / 256), byteOf ((x : Int) % 256)] = mk (textOf v e rs)) := by
                unfold Hid
                rw [hqb.out, mk_append, HT.out, ← hx]
                congr 3
              have hTW := fun wx => two_any wx (x : Int) (by omega) (by omega)
              have HFS : Hid (q.size + 2 = (textOf v e rs).length) := by
                unfold Hid
                have := congrArg ByteArray.size HF.out
                rw [ByteArray.size_append, mk_size, mk_size] at this
                exact this
              obtain ⟨tl, htl⟩ : ∃ tl, tl = mk [byteOf ((x : Int) / 256), byteOf ((x : Int) % 256)] := ⟨_, rfl⟩
              have htz : tl.size = 2 := by rw [htl, mk_size]; rfl
              rw [← htl] at hTW HF
              obtain ⟨tt, htt⟩ : ∃ tt, tt = q ++ tl := ⟨_, rfl⟩
              have AT := fun wx => run_string_add_sum (P := Try.prog) wx q tl (by omega)
              have hts : Hid (tt.size = q.size + 2) := by unfold Hid; rw [htt, ByteArray.size_append, htz]
              rw [← htt] at AT HF
              clear hx htl htt hmsz r1 r2' r3' hro
              go_wp2
              go_loop [15, 16] (fun h i => ∃ k : Nat, k ≤ q.size ∧ i = .int .i64 k ∧ ∃ y : Nat, y < 65521 ∧ h = .int .i64 y ∧ Hid (y = checkOf ((bodyOf v e rs).take k))) (fun _ i => q.size - (intOf i).toNat)
              case atStart => exact ⟨0, by omega, rfl, 1, by omega, rfl, rfl⟩
              case round =>
                obtain ⟨n, hn, rfl, y, hy, rfl, hc⟩ := hrel
                by_cases hnlt : n < q.size
                · have hnlt' : (n : Int) < q.size := by omega
                  have hbb : (q[n].toNat : Int) < 256 := by have := q[n].toNat_lt; omega
                  have hlk : n < (bodyOf v e rs).length := by rw [← hqn.out]; exact hnlt
                  have HN : Hid ((31 * y + q[n].toNat) % 65521 = checkOf ((bodyOf v e rs).take (n + 1))) := by
                    unfold Hid
                    rw [List.take_succ_eq_append_getElem hlk]
                    have e1 : q[n] = (bodyOf v e rs)[n] := by
                      have h1 := ba_getD q n hnlt
                      rw [hql.out, getD_get _ n hlk] at h1
                      exact h1.symm
                    rw [checkOf, List.foldl_append, e1]
                    have := hc.out
                    unfold checkOf at this
                    rw [← this]; rfl
                  go_wp2
                  go_round
                  case rel => exact ⟨n + 1, by omega, by go_num, _, Nat.mod_lt _ (by decide), by go_num, HN⟩
                  case measure => simp [intOf]; omega
                · have hks : y = x := by
                    have := hc.out
                    rw [List.take_of_length_le (by rw [← hqn.out]; omega), ← HX.out] at this
                    exact this
                  subst hks
                  by_cases hbig : 120 < (textOf v e rs).length
                  · have hbig' : 120 < (tt.size : Int) := by have := HFS.out; have := hts.out; omega
                    have HP : Hid (packM v e l = ([], 5)) := by unfold Hid; rw [HQ5.out, if_pos hbig]
                    clear HX hc HQ5 hbig
                    go_wp2_with (go_at_call 48; refine (hTW _).mono ?_; rintro en w8 ⟨rfl, hb8⟩)
                    go_ret2
                    exact ⟨by rw [HP.out]; rfl, (hbT.trans (hbl.mono hbT.size)).trans (hb8.mono (Nat.le_trans hbT.size hbl.size))⟩
                  · have hbig' : (tt.size : Int) ≤ 120 := by have := HFS.out; have := hts.out; omega
                    have HP : Hid (packM v e l = (textOf v e rs, 0)) := by unfold Hid; rw [HQ5.out, if_neg hbig]
                    clear HX hc HQ5 hbig
                    go_wp2_with (go_at_call 48; refine (hTW _).mono ?_; rintro en w8 ⟨rfl, hb8⟩)
                    go_ret2
                    refine ⟨?_, (hbT.trans (hbl.mono hbT.size)).trans (hb8.mono (Nat.le_trans hbT.size hbl.size))⟩
                    rw [HP.out, ← HF.out]; rfl
end Go.Proofs.Ytcokahccbjdeaaa
