/- A loss of power of the document's disk. -/
import Derived.Test.YtdgljfoghonbaaaRkStop
namespace Go.Proofs.Ytdgljfoghonbaaa
open Go.RowKit DK

theorem arr_size (l : List UInt8) : (⟨l.toArray⟩ : ByteArray).size = l.length := by
  show l.toArray.size = _
  simp
theorem extract_take (l : List UInt8) (m : Nat) : ByteArray.extract ⟨l.toArray⟩ 0 m = ⟨(l.take m).toArray⟩ := by
  apply ByteArray.ext
  rw [ByteArray.data_extract]
  apply Array.toList_inj.1
  simp
theorem lt_cell {w : World} {g o : Nat} {v : Value} (h : w.cell? ⟨g, o, none⟩ = some v) : g < w.heap.size := by
  rcases Nat.lt_or_ge g w.heap.size with h' | h'
  · exact h'
  · exfalso
    have e : w.heap[g]? = none := Array.getElem?_eq_none h'
    simp [World.cell?, e] at h
theorem wp_world {c : Code} {P : Program} {Q : Exit → Act → World → Prop} {a : Act} {X : World} (C : World → Prop) (hX : C X) (h : ∀ W, C W → Code.wp P c Q a W) : Code.wp P c Q a X := h X hX
/-- Numbers that a loss of power of the document's disk leaves. -/
def RInts (r : Nat) (w : World) (A : Option Addr) (l : List Int) : Prop := ∀ w', w.grownBy w' (some r) → Ints w' A l
structure ROk (R : Rv) : Prop where
  a : R.a.l ≤ R.a.s.length
  b : R.b.l ≤ R.b.s.length
  a2 : R.a.s.length ≤ 16777216
  b2 : R.b.s.length ≤ 16777216
theorem at_zero (x : Fl) : x.at 0 = x.l := by unfold Fl.at; rw [kp_zero]; rfl
theorem take_len (x : Fl) (h : x.l ≤ x.s.length) (k : Int) : (⟨(x.s.take (x.at k)).toArray⟩ : ByteArray).size = x.at k := by rw [arr_size]; exact (Fl.lose_len h k).1
theorem grown_drewN {w w' : World} {row : Option Nat} (h : w.grownBy w' row) (n : Nat) : w.grownBy (w'.drewN n) row := ⟨h.os, h.tape, h.output, h.size, h.block⟩
theorem grown_drew {w w' : World} {row : Option Nat} (h : w.grownBy w' row) : w.grownBy w'.drew row := ⟨h.os, h.tape, h.output, h.size, h.block⟩
theorem grown_refl (w : World) (row : Option Nat) : w.grownBy w row := ⟨rfl, rfl, rfl, Nat.le_refl _, fun _ _ _ => rfl⟩
theorem RetP.ofGrown {r : Nat} {R : Rv} {w w1 w' : World} {e : Ending} {v : Value} (hr : r < w.heap.size) (hg : w.grownBy w1 (some r)) (h : RetP r R w1 v e w') : RetP r R w v e w' := ⟨h.1, h.2.1, (kt_of_grown (Nat.le_of_lt hr) hg).trans h.2.2⟩

set_option maxRecDepth 100000 in
set_option maxHeartbeats 2000000 in
theorem rlose0_any (r : Nat) (R : Rv) (A : Option Addr) (cap : Nat) (w : World) (h : Rk r R w) (ho : ROk R) :
    Calls Try.prog 41 #[.pointer (some ⟨r, 0, none⟩), .slice A 0 cap] w (RetP r (R.lose 0 0) w (.tuple #[])) := by
  obtain ⟨vk, hW⟩ := h
  have hlt := lt_heap hW.1
  obtain ⟨d0, d1, d2, d3, -⟩ := hW.cells
  have e0 := hW.loose 0
  have e1 := hW.loose 1
  have e2 := hW.loose 2
  have e3 := hW.loose 3
  have ha0 := Fl.at_le ho.a 0
  have hb0 := Fl.at_le ho.b 0
  obtain ⟨ta, hta⟩ : ∃ ta : ByteArray, ta = ⟨(R.a.s.take (R.a.at 0)).toArray⟩ := ⟨_, rfl⟩
  obtain ⟨tb, htb⟩ : ∃ tb : ByteArray, tb = ⟨(R.b.s.take (R.b.at 0)).toArray⟩ := ⟨_, rfl⟩
  obtain ⟨ma, hma⟩ : ∃ ma, ma = R.a.at 0 := ⟨_, rfl⟩
  obtain ⟨mb, hmb⟩ : ∃ mb, mb = R.b.at 0 := ⟨_, rfl⟩
  have za : ta.size = ma := by rw [hta, hma]; exact take_len _ ho.a _
  have zb : tb.size = mb := by rw [htb, hmb]; exact take_len _ ho.b _
  have sa : ByteArray.extract ⟨R.a.s.toArray⟩ 0 ma = ta := by rw [hta, hma]; exact extract_take _ _
  have sb : ByteArray.extract ⟨R.b.s.toArray⟩ 0 mb = tb := by rw [htb, hmb]; exact extract_take _ _
  have S0 : Hid (∀ vk, (rkCells (R) vk).set! 0 (.string ta) = rkCells { R with a := ⟨(R.a.lose 0).s, R.a.l⟩ } vk) := Lib.hid (fun vk => by rw [hta]; rfl)
  have S1 : Hid (∀ vk, (rkCells { R with a := ⟨(R.a.lose 0).s, R.a.l⟩ } vk).set! 2 (.int .i64 ma) = rkCells { R with a := R.a.lose 0 } vk) := Lib.hid (fun vk => by rw [hma]; rfl)
  have S2 : Hid (∀ vk, (rkCells { R with a := R.a.lose 0 } vk).set! 1 (.string tb) = rkCells { R with a := R.a.lose 0, b := ⟨(R.b.lose 0).s, R.b.l⟩ } vk) := Lib.hid (fun vk => by rw [htb]; rfl)
  have S3 : Hid (∀ vk, (rkCells { R with a := R.a.lose 0, b := ⟨(R.b.lose 0).s, R.b.l⟩ } vk).set! 3 (.int .i64 mb) = rkCells { R with a := R.a.lose 0, b := R.b.lose 0 } vk) := Lib.hid (fun vk => by rw [hmb]; rfl)
  have T0 : Hid (Value.string ⟨(R.a.lose 0).s.toArray⟩ = .string ta) := Lib.hid (by rw [hta]; rfl)
  have T1 : Hid (Value.string ⟨(R.b.lose 0).s.toArray⟩ = .string tb) := Lib.hid (by rw [htb]; rfl)
  have CO := Lib.hid (fun W hW => ron_any r { R with a := R.a.lose 0, b := R.b.lose 0 } W hW)
  obtain ⟨oa, ob, oa2, ob2⟩ := ho
  have ia0 : (0 : Int) ≤ (ma : Int) := by omega
  have ia1 : (ma : Int) ≤ (R.a.s.length : Int) := by omega
  have ib0 : (0 : Int) ≤ (mb : Int) := by omega
  have ib1 : (mb : Int) ≤ (R.b.s.length : Int) := by omega
  have ea : IntKind.i64.wrap (R.a.l : Int) = (ma : Int) := by have := at_zero R.a; rw [IntKind.wrap_i64]; omega
  have eb : IntKind.i64.wrap (R.b.l : Int) = (mb : Int) := by have := at_zero R.b; rw [IntKind.wrap_i64]; omega
  have gW := Lib.hid (grown_refl w (some r))
  replace hW := Lib.hid hW
  obtain ⟨ha1, ha2⟩ := ha0
  obtain ⟨hb1, hb2⟩ := hb0
  clear hta htb hma hmb
  go_enter Try.func41, Try.ntmps41
  go_wp2_with fail
  refine wp_loop_rounds 3 ?_
  rw [rounds_succ]
  go_wp2_with fail
  go_quiet (fail)
  go_wp2_with fail
  refine wp_world (fun W => RkAt r R vk W ∧ w.grownBy W (some r)) ⟨hW.out, grown_drewN gW.out _⟩ ?_
  clear hW gW d0 d1 d2 d3 e0 e1 e2 e3
  rintro W1 ⟨hW, gW⟩
  obtain ⟨d0, d1, d2, d3, -⟩ := hW.cells
  have e0 := hW.loose 0
  have e1 := hW.loose 1
  have e2 := hW.loose 2
  have e3 := hW.loose 3
  replace hW := Lib.hid hW
  replace gW := Lib.hid gW
  go_still_tail 20, (by kernel_rfl)
  change wpList _ _ _ _ _ W1.drew
  go_wp2_with fail
  refine wp_world (fun W => RkAt r { R with a := ⟨(R.a.lose 0).s, R.a.l⟩ } vk W ∧ w.grownBy W (some r)) ⟨hW.out.set (R' := { R with a := ⟨(R.a.lose 0).s, R.a.l⟩ }) 0 (.string ta) (S0.out vk) rfl, grown_drew (grown_set gW.out 0 _)⟩ ?_
  clear hW gW d0 d1 d2 d3 e0 e1 e2 e3
  rintro W2 ⟨hW, gW⟩
  obtain ⟨d0, d1, d2, d3, -⟩ := hW.cells
  have e0 := hW.loose 0
  have e1 := hW.loose 1
  have e2 := hW.loose 2
  have e3 := hW.loose 3
  replace hW := Lib.hid hW
  replace gW := Lib.hid gW
  replace d0 : W2.cell? ⟨r, 0, none⟩ = some (.string ta) := d0.trans (congrArg some T0.out)
  go_still_tail 12, (by kernel_rfl)
  change wpList _ _ _ _ _ W2.drew
  go_wp2_with fail
  rw [rounds_succ]
  go_wp2_with fail
  refine wp_world (fun W => RkAt r { R with a := R.a.lose 0 } vk W ∧ w.grownBy W (some r)) ⟨hW.out.set (R' := { R with a := R.a.lose 0 }) 2 (.int .i64 ma) (S1.out vk) rfl, grown_drew (grown_set gW.out 2 _)⟩ ?_
  clear hW gW d0 d1 d2 d3 e0 e1 e2 e3
  rintro W3 ⟨hW, gW⟩
  obtain ⟨d0, d1, d2, d3, -⟩ := hW.cells
  have e0 := hW.loose 0
  have e1 := hW.loose 1
  have e2 := hW.loose 2
  have e3 := hW.loose 3
  replace hW := Lib.hid hW
  replace gW := Lib.hid gW
  go_quiet (fail)
  go_wp2_with fail
  refine wp_world (fun W => RkAt r { R with a := R.a.lose 0 } vk W ∧ w.grownBy W (some r)) ⟨hW.out, grown_drewN gW.out _⟩ ?_
  clear hW gW d0 d1 d2 d3 e0 e1 e2 e3
  rintro W4 ⟨hW, gW⟩
  obtain ⟨d0, d1, d2, d3, -⟩ := hW.cells
  have e0 := hW.loose 0
  have e1 := hW.loose 1
  have e2 := hW.loose 2
  have e3 := hW.loose 3
  replace hW := Lib.hid hW
  replace gW := Lib.hid gW
  go_still_tail 20, (by kernel_rfl)
  change wpList _ _ _ _ _ W4.drew
  go_wp2_with fail
  refine wp_world (fun W => RkAt r { R with a := R.a.lose 0, b := ⟨(R.b.lose 0).s, R.b.l⟩ } vk W ∧ w.grownBy W (some r)) ⟨hW.out.set (R' := { R with a := R.a.lose 0, b := ⟨(R.b.lose 0).s, R.b.l⟩ }) 1 (.string tb) (S2.out vk) rfl, grown_drew (grown_set gW.out 1 _)⟩ ?_
  clear hW gW d0 d1 d2 d3 e0 e1 e2 e3
  rintro W5 ⟨hW, gW⟩
  obtain ⟨d0, d1, d2, d3, -⟩ := hW.cells
  have e0 := hW.loose 0
  have e1 := hW.loose 1
  have e2 := hW.loose 2
  have e3 := hW.loose 3
  replace hW := Lib.hid hW
  replace gW := Lib.hid gW
  replace d1 : W5.cell? ⟨r, 1, none⟩ = some (.string tb) := d1.trans (congrArg some T1.out)
  go_still_tail 12, (by kernel_rfl)
  change wpList _ _ _ _ _ W5.drew
  go_wp2_with fail
  rw [rounds_succ]
  go_wp2_with fail
  have hW6 : RkAt r { R with a := R.a.lose 0, b := R.b.lose 0 } vk (W5.setCell ⟨r, 3, none⟩ (.int .i64 mb)).drew := hW.out.set (R' := { R with a := R.a.lose 0, b := R.b.lose 0 }) 3 (.int .i64 mb) (S3.out vk) rfl
  have gW6 := grown_drew (grown_set gW.out 3 (.int .i64 mb))
  refine (CO.out _ ⟨vk, hW6⟩).mono ?_
  rintro e w7 ⟨rfl, ⟨vk7, h7⟩, k7⟩
  have f7 := h7.loose 5
  obtain ⟨-, -, -, -, -, c7, -⟩ := h7.cells
  have HF : Hid (RetP r (R.lose 0 0) w (.tuple #[]) (.returned (.tuple #[])) (w7.setCell ⟨r, 5, none⟩ (.bool true))) := Lib.hid ⟨rfl, ⟨vk7, h7.set (R' := R.lose 0 0) 5 (.bool true) rfl rfl⟩, ((kt_of_grown (Nat.le_of_lt hlt) gW6).trans k7).setCell 5 _⟩
  clear h7 k7 hW6 gW6 hW gW
  go_wp2_with fail
  go_end0
  exact HF.out

set_option maxRecDepth 100000 in
set_option maxHeartbeats 2000000 in
theorem rlose1_any (r : Nat) (R : Rv) (g o : Nat) (j : Int) (hj : I64 j) (hgr : g ≠ r) (cap : Nat) (w : World) (h : Rk r R w) (ho : ROk R) (q0 : w.cell? ⟨g, o, none⟩ = some (.int .i64 j)) :
    Calls Try.prog 41 #[.pointer (some ⟨r, 0, none⟩), .slice (some ⟨g, o, none⟩) 1 cap] w (RetP r (R.lose j 0) w (.tuple #[])) := by
  obtain ⟨vk, hW⟩ := h
  have hlt := lt_heap hW.1
  obtain ⟨d0, d1, d2, d3, -⟩ := hW.cells
  have e0 := hW.loose 0
  have e1 := hW.loose 1
  have e2 := hW.loose 2
  have e3 := hW.loose 3
  have ha0 := Fl.at_le ho.a j
  have hb0 := Fl.at_le ho.b 0
  obtain ⟨ta, hta⟩ : ∃ ta : ByteArray, ta = ⟨(R.a.s.take (R.a.at j)).toArray⟩ := ⟨_, rfl⟩
  obtain ⟨tb, htb⟩ : ∃ tb : ByteArray, tb = ⟨(R.b.s.take (R.b.at 0)).toArray⟩ := ⟨_, rfl⟩
  obtain ⟨ma, hma⟩ : ∃ ma, ma = R.a.at j := ⟨_, rfl⟩
  obtain ⟨mb, hmb⟩ : ∃ mb, mb = R.b.at 0 := ⟨_, rfl⟩
  have za : ta.size = ma := by rw [hta, hma]; exact take_len _ ho.a _
  have zb : tb.size = mb := by rw [htb, hmb]; exact take_len _ ho.b _
  have sa : ByteArray.extract ⟨R.a.s.toArray⟩ 0 ma = ta := by rw [hta, hma]; exact extract_take _ _
  have sb : ByteArray.extract ⟨R.b.s.toArray⟩ 0 mb = tb := by rw [htb, hmb]; exact extract_take _ _
  have S0 : Hid (∀ vk, (rkCells (R) vk).set! 0 (.string ta) = rkCells { R with a := ⟨(R.a.lose j).s, R.a.l⟩ } vk) := Lib.hid (fun vk => by rw [hta]; rfl)
  have S1 : Hid (∀ vk, (rkCells { R with a := ⟨(R.a.lose j).s, R.a.l⟩ } vk).set! 2 (.int .i64 ma) = rkCells { R with a := R.a.lose j } vk) := Lib.hid (fun vk => by rw [hma]; rfl)
  have S2 : Hid (∀ vk, (rkCells { R with a := R.a.lose j } vk).set! 1 (.string tb) = rkCells { R with a := R.a.lose j, b := ⟨(R.b.lose 0).s, R.b.l⟩ } vk) := Lib.hid (fun vk => by rw [htb]; rfl)
  have S3 : Hid (∀ vk, (rkCells { R with a := R.a.lose j, b := ⟨(R.b.lose 0).s, R.b.l⟩ } vk).set! 3 (.int .i64 mb) = rkCells { R with a := R.a.lose j, b := R.b.lose 0 } vk) := Lib.hid (fun vk => by rw [hmb]; rfl)
  have T0 : Hid (Value.string ⟨(R.a.lose j).s.toArray⟩ = .string ta) := Lib.hid (by rw [hta]; rfl)
  have T1 : Hid (Value.string ⟨(R.b.lose 0).s.toArray⟩ = .string tb) := Lib.hid (by rw [htb]; rfl)
  have CO := Lib.hid (fun W hW => ron_any r { R with a := R.a.lose j, b := R.b.lose 0 } W hW)
  obtain ⟨oa, ob, oa2, ob2⟩ := ho
  have ia0 : (0 : Int) ≤ (ma : Int) := by omega
  have ia1 : (ma : Int) ≤ (R.a.s.length : Int) := by omega
  have ib0 : (0 : Int) ≤ (mb : Int) := by omega
  have ib1 : (mb : Int) ≤ (R.b.s.length : Int) := by omega
  have CK0 : Hid (∀ W, Calls Try.prog 44 #[.int .i64 ((R.a.s.length : Int) - R.a.l), .int .i64 j] W fun e w' => e = .returned (.int .i64 (kp j (R.a.s.length - R.a.l))) ∧ W = w') := Lib.hid (fun W => by rw [show (R.a.s.length : Int) - R.a.l = ((R.a.s.length - R.a.l : Nat) : Int) by omega]; exact rkept_any _ j W hj (by omega))
  have ea : IntKind.i64.wrap ((R.a.l : Int) + kp j (R.a.s.length - R.a.l)) = (ma : Int) := by have := Fl.at_int (x := R.a) j; rw [IntKind.wrap_i64]; omega
  have Q0 : Hid (∀ W, w.grownBy W (some r) → W.cell? ⟨g, o, none⟩ = some (.int .i64 j)) := Lib.hid (fun W hg => (World.cell?_of_block (a := ⟨g, o, none⟩) (hg.block g (lt_cell q0) (fun e => hgr (by injection e)))).trans q0)
  have eb : IntKind.i64.wrap (R.b.l : Int) = (mb : Int) := by have := at_zero R.b; rw [IntKind.wrap_i64]; omega
  have gW := Lib.hid (grown_refl w (some r))
  replace hW := Lib.hid hW
  obtain ⟨ha1, ha2⟩ := ha0
  obtain ⟨hb1, hb2⟩ := hb0
  clear hta htb hma hmb hj
  go_enter Try.func41, Try.ntmps41
  go_wp2_with fail
  refine wp_loop_rounds 3 ?_
  rw [rounds_succ]
  go_wp2_with fail
  go_quiet (fail)
  go_wp2_with fail
  refine (CK0.out _).mono ?_
  rintro e w' ⟨rfl, rfl⟩
  go_wp2_with fail
  refine wp_world (fun W => RkAt r R vk W ∧ w.grownBy W (some r)) ⟨hW.out, grown_drewN gW.out _⟩ ?_
  clear hW gW d0 d1 d2 d3 e0 e1 e2 e3 q0
  rintro W1 ⟨hW, gW⟩
  obtain ⟨d0, d1, d2, d3, -⟩ := hW.cells
  have e0 := hW.loose 0
  have e1 := hW.loose 1
  have e2 := hW.loose 2
  have e3 := hW.loose 3
  have q0 := Q0.out W1 gW
  replace hW := Lib.hid hW
  replace gW := Lib.hid gW
  go_still_tail 20, (by kernel_rfl)
  change wpList _ _ _ _ _ W1.drew
  go_wp2_with fail
  refine wp_world (fun W => RkAt r { R with a := ⟨(R.a.lose j).s, R.a.l⟩ } vk W ∧ w.grownBy W (some r)) ⟨hW.out.set (R' := { R with a := ⟨(R.a.lose j).s, R.a.l⟩ }) 0 (.string ta) (S0.out vk) rfl, grown_drew (grown_set gW.out 0 _)⟩ ?_
  clear hW gW d0 d1 d2 d3 e0 e1 e2 e3 q0
  rintro W2 ⟨hW, gW⟩
  obtain ⟨d0, d1, d2, d3, -⟩ := hW.cells
  have e0 := hW.loose 0
  have e1 := hW.loose 1
  have e2 := hW.loose 2
  have e3 := hW.loose 3
  have q0 := Q0.out W2 gW
  replace hW := Lib.hid hW
  replace gW := Lib.hid gW
  replace d0 : W2.cell? ⟨r, 0, none⟩ = some (.string ta) := d0.trans (congrArg some T0.out)
  go_still_tail 12, (by kernel_rfl)
  change wpList _ _ _ _ _ W2.drew
  go_wp2_with fail
  rw [rounds_succ]
  go_wp2_with fail
  refine wp_world (fun W => RkAt r { R with a := R.a.lose j } vk W ∧ w.grownBy W (some r)) ⟨hW.out.set (R' := { R with a := R.a.lose j }) 2 (.int .i64 ma) (S1.out vk) rfl, grown_drew (grown_set gW.out 2 _)⟩ ?_
  clear hW gW d0 d1 d2 d3 e0 e1 e2 e3 q0
  rintro W3 ⟨hW, gW⟩
  obtain ⟨d0, d1, d2, d3, -⟩ := hW.cells
  have e0 := hW.loose 0
  have e1 := hW.loose 1
  have e2 := hW.loose 2
  have e3 := hW.loose 3
  have q0 := Q0.out W3 gW
  replace hW := Lib.hid hW
  replace gW := Lib.hid gW
  go_quiet (fail)
  go_wp2_with fail
  refine wp_world (fun W => RkAt r { R with a := R.a.lose j } vk W ∧ w.grownBy W (some r)) ⟨hW.out, grown_drewN gW.out _⟩ ?_
  clear hW gW d0 d1 d2 d3 e0 e1 e2 e3 q0
  rintro W4 ⟨hW, gW⟩
  obtain ⟨d0, d1, d2, d3, -⟩ := hW.cells
  have e0 := hW.loose 0
  have e1 := hW.loose 1
  have e2 := hW.loose 2
  have e3 := hW.loose 3
  have q0 := Q0.out W4 gW
  replace hW := Lib.hid hW
  replace gW := Lib.hid gW
  go_still_tail 20, (by kernel_rfl)
  change wpList _ _ _ _ _ W4.drew
  go_wp2_with fail
  refine wp_world (fun W => RkAt r { R with a := R.a.lose j, b := ⟨(R.b.lose 0).s, R.b.l⟩ } vk W ∧ w.grownBy W (some r)) ⟨hW.out.set (R' := { R with a := R.a.lose j, b := ⟨(R.b.lose 0).s, R.b.l⟩ }) 1 (.string tb) (S2.out vk) rfl, grown_drew (grown_set gW.out 1 _)⟩ ?_
  clear hW gW d0 d1 d2 d3 e0 e1 e2 e3 q0
  rintro W5 ⟨hW, gW⟩
  obtain ⟨d0, d1, d2, d3, -⟩ := hW.cells
  have e0 := hW.loose 0
  have e1 := hW.loose 1
  have e2 := hW.loose 2
  have e3 := hW.loose 3
  have q0 := Q0.out W5 gW
  replace hW := Lib.hid hW
  replace gW := Lib.hid gW
  replace d1 : W5.cell? ⟨r, 1, none⟩ = some (.string tb) := d1.trans (congrArg some T1.out)
  go_still_tail 12, (by kernel_rfl)
  change wpList _ _ _ _ _ W5.drew
  go_wp2_with fail
  rw [rounds_succ]
  go_wp2_with fail
  have hW6 : RkAt r { R with a := R.a.lose j, b := R.b.lose 0 } vk (W5.setCell ⟨r, 3, none⟩ (.int .i64 mb)).drew := hW.out.set (R' := { R with a := R.a.lose j, b := R.b.lose 0 }) 3 (.int .i64 mb) (S3.out vk) rfl
  have gW6 := grown_drew (grown_set gW.out 3 (.int .i64 mb))
  refine (CO.out _ ⟨vk, hW6⟩).mono ?_
  rintro e w7 ⟨rfl, ⟨vk7, h7⟩, k7⟩
  have f7 := h7.loose 5
  obtain ⟨-, -, -, -, -, c7, -⟩ := h7.cells
  have HF : Hid (RetP r (R.lose j 0) w (.tuple #[]) (.returned (.tuple #[])) (w7.setCell ⟨r, 5, none⟩ (.bool true))) := Lib.hid ⟨rfl, ⟨vk7, h7.set (R' := R.lose j 0) 5 (.bool true) rfl rfl⟩, ((kt_of_grown (Nat.le_of_lt hlt) gW6).trans k7).setCell 5 _⟩
  clear h7 k7 hW6 gW6 hW gW
  go_wp2_with fail
  go_end0
  exact HF.out

set_option maxRecDepth 100000 in
set_option maxHeartbeats 2000000 in
theorem rlose2_any (r : Nat) (R : Rv) (g o : Nat) (m : Nat) (hm : 2 ≤ m) (j k : Int) (hj : I64 j) (hk : I64 k) (hgr : g ≠ r) (cap : Nat) (w : World) (h : Rk r R w) (ho : ROk R) (q0 : w.cell? ⟨g, o, none⟩ = some (.int .i64 j)) (q1 : w.cell? ⟨g, o + 1, none⟩ = some (.int .i64 k)) :
    Calls Try.prog 41 #[.pointer (some ⟨r, 0, none⟩), .slice (some ⟨g, o, none⟩) m cap] w (RetP r (R.lose j k) w (.tuple #[])) := by
  obtain ⟨vk, hW⟩ := h
  have hlt := lt_heap hW.1
  obtain ⟨d0, d1, d2, d3, -⟩ := hW.cells
  have e0 := hW.loose 0
  have e1 := hW.loose 1
  have e2 := hW.loose 2
  have e3 := hW.loose 3
  have ha0 := Fl.at_le ho.a j
  have hb0 := Fl.at_le ho.b k
  obtain ⟨ta, hta⟩ : ∃ ta : ByteArray, ta = ⟨(R.a.s.take (R.a.at j)).toArray⟩ := ⟨_, rfl⟩
  obtain ⟨tb, htb⟩ : ∃ tb : ByteArray, tb = ⟨(R.b.s.take (R.b.at k)).toArray⟩ := ⟨_, rfl⟩
  obtain ⟨ma, hma⟩ : ∃ ma, ma = R.a.at j := ⟨_, rfl⟩
  obtain ⟨mb, hmb⟩ : ∃ mb, mb = R.b.at k := ⟨_, rfl⟩
  have za : ta.size = ma := by rw [hta, hma]; exact take_len _ ho.a _
  have zb : tb.size = mb := by rw [htb, hmb]; exact take_len _ ho.b _
  have sa : ByteArray.extract ⟨R.a.s.toArray⟩ 0 ma = ta := by rw [hta, hma]; exact extract_take _ _
  have sb : ByteArray.extract ⟨R.b.s.toArray⟩ 0 mb = tb := by rw [htb, hmb]; exact extract_take _ _
  have S0 : Hid (∀ vk, (rkCells (R) vk).set! 0 (.string ta) = rkCells { R with a := ⟨(R.a.lose j).s, R.a.l⟩ } vk) := Lib.hid (fun vk => by rw [hta]; rfl)
  have S1 : Hid (∀ vk, (rkCells { R with a := ⟨(R.a.lose j).s, R.a.l⟩ } vk).set! 2 (.int .i64 ma) = rkCells { R with a := R.a.lose j } vk) := Lib.hid (fun vk => by rw [hma]; rfl)
  have S2 : Hid (∀ vk, (rkCells { R with a := R.a.lose j } vk).set! 1 (.string tb) = rkCells { R with a := R.a.lose j, b := ⟨(R.b.lose k).s, R.b.l⟩ } vk) := Lib.hid (fun vk => by rw [htb]; rfl)
  have S3 : Hid (∀ vk, (rkCells { R with a := R.a.lose j, b := ⟨(R.b.lose k).s, R.b.l⟩ } vk).set! 3 (.int .i64 mb) = rkCells { R with a := R.a.lose j, b := R.b.lose k } vk) := Lib.hid (fun vk => by rw [hmb]; rfl)
  have T0 : Hid (Value.string ⟨(R.a.lose j).s.toArray⟩ = .string ta) := Lib.hid (by rw [hta]; rfl)
  have T1 : Hid (Value.string ⟨(R.b.lose k).s.toArray⟩ = .string tb) := Lib.hid (by rw [htb]; rfl)
  have CO := Lib.hid (fun W hW => ron_any r { R with a := R.a.lose j, b := R.b.lose k } W hW)
  obtain ⟨oa, ob, oa2, ob2⟩ := ho
  have ia0 : (0 : Int) ≤ (ma : Int) := by omega
  have ia1 : (ma : Int) ≤ (R.a.s.length : Int) := by omega
  have ib0 : (0 : Int) ≤ (mb : Int) := by omega
  have ib1 : (mb : Int) ≤ (R.b.s.length : Int) := by omega
  have CK0 : Hid (∀ W, Calls Try.prog 44 #[.int .i64 ((R.a.s.length : Int) - R.a.l), .int .i64 j] W fun e w' => e = .returned (.int .i64 (kp j (R.a.s.length - R.a.l))) ∧ W = w') := Lib.hid (fun W => by rw [show (R.a.s.length : Int) - R.a.l = ((R.a.s.length - R.a.l : Nat) : Int) by omega]; exact rkept_any _ j W hj (by omega))
  have ea : IntKind.i64.wrap ((R.a.l : Int) + kp j (R.a.s.length - R.a.l)) = (ma : Int) := by have := Fl.at_int (x := R.a) j; rw [IntKind.wrap_i64]; omega
  have Q0 : Hid (∀ W, w.grownBy W (some r) → W.cell? ⟨g, o, none⟩ = some (.int .i64 j)) := Lib.hid (fun W hg => (World.cell?_of_block (a := ⟨g, o, none⟩) (hg.block g (lt_cell q0) (fun e => hgr (by injection e)))).trans q0)
  have CK1 : Hid (∀ W, Calls Try.prog 44 #[.int .i64 ((R.b.s.length : Int) - R.b.l), .int .i64 k] W fun e w' => e = .returned (.int .i64 (kp k (R.b.s.length - R.b.l))) ∧ W = w') := Lib.hid (fun W => by rw [show (R.b.s.length : Int) - R.b.l = ((R.b.s.length - R.b.l : Nat) : Int) by omega]; exact rkept_any _ k W hk (by omega))
  have eb : IntKind.i64.wrap ((R.b.l : Int) + kp k (R.b.s.length - R.b.l)) = (mb : Int) := by have := Fl.at_int (x := R.b) k; rw [IntKind.wrap_i64]; omega
  have hm1 : (1 : Int) < (m : Int) := by omega
  have hm0 : (0 : Int) < (m : Int) := by omega
  have Q1 : Hid (∀ W, w.grownBy W (some r) → W.cell? ⟨g, o + 1, none⟩ = some (.int .i64 k)) := Lib.hid (fun W hg => (World.cell?_of_block (a := ⟨g, o + 1, none⟩) (hg.block g (lt_cell q0) (fun e => hgr (by injection e)))).trans q1)
  have gW := Lib.hid (grown_refl w (some r))
  replace hW := Lib.hid hW
  obtain ⟨ha1, ha2⟩ := ha0
  obtain ⟨hb1, hb2⟩ := hb0
  clear hta htb hma hmb hj hk hm
  go_enter Try.func41, Try.ntmps41
  go_wp2_with fail
  refine wp_loop_rounds 3 ?_
  rw [rounds_succ]
  go_wp2_with fail
  go_quiet (fail)
  go_wp2_with fail
  refine (CK0.out _).mono ?_
  rintro e w' ⟨rfl, rfl⟩
  go_wp2_with fail
  refine wp_world (fun W => RkAt r R vk W ∧ w.grownBy W (some r)) ⟨hW.out, grown_drewN gW.out _⟩ ?_
  clear hW gW d0 d1 d2 d3 e0 e1 e2 e3 q0 q1
  rintro W1 ⟨hW, gW⟩
  obtain ⟨d0, d1, d2, d3, -⟩ := hW.cells
  have e0 := hW.loose 0
  have e1 := hW.loose 1
  have e2 := hW.loose 2
  have e3 := hW.loose 3
  have q0 := Q0.out W1 gW
  have q1 := Q1.out W1 gW
  replace hW := Lib.hid hW
  replace gW := Lib.hid gW
  go_still_tail 20, (by kernel_rfl)
  change wpList _ _ _ _ _ W1.drew
  go_wp2_with fail
  refine wp_world (fun W => RkAt r { R with a := ⟨(R.a.lose j).s, R.a.l⟩ } vk W ∧ w.grownBy W (some r)) ⟨hW.out.set (R' := { R with a := ⟨(R.a.lose j).s, R.a.l⟩ }) 0 (.string ta) (S0.out vk) rfl, grown_drew (grown_set gW.out 0 _)⟩ ?_
  clear hW gW d0 d1 d2 d3 e0 e1 e2 e3 q0 q1
  rintro W2 ⟨hW, gW⟩
  obtain ⟨d0, d1, d2, d3, -⟩ := hW.cells
  have e0 := hW.loose 0
  have e1 := hW.loose 1
  have e2 := hW.loose 2
  have e3 := hW.loose 3
  have q0 := Q0.out W2 gW
  have q1 := Q1.out W2 gW
  replace hW := Lib.hid hW
  replace gW := Lib.hid gW
  replace d0 : W2.cell? ⟨r, 0, none⟩ = some (.string ta) := d0.trans (congrArg some T0.out)
  go_still_tail 12, (by kernel_rfl)
  change wpList _ _ _ _ _ W2.drew
  go_wp2_with fail
  rw [rounds_succ]
  go_wp2_with fail
  refine wp_world (fun W => RkAt r { R with a := R.a.lose j } vk W ∧ w.grownBy W (some r)) ⟨hW.out.set (R' := { R with a := R.a.lose j }) 2 (.int .i64 ma) (S1.out vk) rfl, grown_drew (grown_set gW.out 2 _)⟩ ?_
  clear hW gW d0 d1 d2 d3 e0 e1 e2 e3 q0 q1
  rintro W3 ⟨hW, gW⟩
  obtain ⟨d0, d1, d2, d3, -⟩ := hW.cells
  have e0 := hW.loose 0
  have e1 := hW.loose 1
  have e2 := hW.loose 2
  have e3 := hW.loose 3
  have q0 := Q0.out W3 gW
  have q1 := Q1.out W3 gW
  replace hW := Lib.hid hW
  replace gW := Lib.hid gW
  go_quiet (fail)
  go_wp2_with fail
  refine (CK1.out _).mono ?_
  rintro e w' ⟨rfl, rfl⟩
  go_wp2_with fail
  refine wp_world (fun W => RkAt r { R with a := R.a.lose j } vk W ∧ w.grownBy W (some r)) ⟨hW.out, grown_drewN gW.out _⟩ ?_
  clear hW gW d0 d1 d2 d3 e0 e1 e2 e3 q0 q1
  rintro W4 ⟨hW, gW⟩
  obtain ⟨d0, d1, d2, d3, -⟩ := hW.cells
  have e0 := hW.loose 0
  have e1 := hW.loose 1
  have e2 := hW.loose 2
  have e3 := hW.loose 3
  have q0 := Q0.out W4 gW
  have q1 := Q1.out W4 gW
  replace hW := Lib.hid hW
  replace gW := Lib.hid gW
  go_still_tail 20, (by kernel_rfl)
  change wpList _ _ _ _ _ W4.drew
  go_wp2_with fail
  refine wp_world (fun W => RkAt r { R with a := R.a.lose j, b := ⟨(R.b.lose k).s, R.b.l⟩ } vk W ∧ w.grownBy W (some r)) ⟨hW.out.set (R' := { R with a := R.a.lose j, b := ⟨(R.b.lose k).s, R.b.l⟩ }) 1 (.string tb) (S2.out vk) rfl, grown_drew (grown_set gW.out 1 _)⟩ ?_
  clear hW gW d0 d1 d2 d3 e0 e1 e2 e3 q0 q1
  rintro W5 ⟨hW, gW⟩
  obtain ⟨d0, d1, d2, d3, -⟩ := hW.cells
  have e0 := hW.loose 0
  have e1 := hW.loose 1
  have e2 := hW.loose 2
  have e3 := hW.loose 3
  have q0 := Q0.out W5 gW
  have q1 := Q1.out W5 gW
  replace hW := Lib.hid hW
  replace gW := Lib.hid gW
  replace d1 : W5.cell? ⟨r, 1, none⟩ = some (.string tb) := d1.trans (congrArg some T1.out)
  go_still_tail 12, (by kernel_rfl)
  change wpList _ _ _ _ _ W5.drew
  go_wp2_with fail
  rw [rounds_succ]
  go_wp2_with fail
  have hW6 : RkAt r { R with a := R.a.lose j, b := R.b.lose k } vk (W5.setCell ⟨r, 3, none⟩ (.int .i64 mb)).drew := hW.out.set (R' := { R with a := R.a.lose j, b := R.b.lose k }) 3 (.int .i64 mb) (S3.out vk) rfl
  have gW6 := grown_drew (grown_set gW.out 3 (.int .i64 mb))
  refine (CO.out _ ⟨vk, hW6⟩).mono ?_
  rintro e w7 ⟨rfl, ⟨vk7, h7⟩, k7⟩
  have f7 := h7.loose 5
  obtain ⟨-, -, -, -, -, c7, -⟩ := h7.cells
  have HF : Hid (RetP r (R.lose j k) w (.tuple #[]) (.returned (.tuple #[])) (w7.setCell ⟨r, 5, none⟩ (.bool true))) := Lib.hid ⟨rfl, ⟨vk7, h7.set (R' := R.lose j k) 5 (.bool true) rfl rfl⟩, ((kt_of_grown (Nat.le_of_lt hlt) gW6).trans k7).setCell 5 _⟩
  clear h7 k7 hW6 gW6 hW gW
  go_wp2_with fail
  go_end0
  exact HF.out

end Go.Proofs.Ytdgljfoghonbaaa
