/- What stops a change of the document's disk. -/
import Derived.Test.YtdgljfoghonbaaaRkFn
namespace Go.Proofs.Ytdgljfoghonbaaa
open Go.RowKit DK

set_option maxRecDepth 100000 in
theorem stop_cut (r : Nat) (R : Rv) (w : World) (h : Rk r R w) (i1 : I64 R.cut) (i2 : I64 R.brk) (hc : R.cut = 1) : Calls Try.prog 40 #[.pointer (some ⟨r, 0, none⟩)] w (RetP r R.stopS w (.int .i64 R.stopC)) := by
  obtain ⟨vk, h⟩ := h
  obtain ⟨-, -, -, -, -, -, c6, -, c8, c9⟩ := h.cells
  have f6 := h.loose 6
  have f8 := h.loose 8
  have f9 := h.loose 9
  obtain ⟨i1a, i1b⟩ := i1
  obtain ⟨i2a, i2b⟩ := i2
  have h0 := h.set (R' := { R with cut := R.cut - 1 }) 6 (.int .i64 (R.cut - 1)) rfl rfl
  have HC : Hid (R.stopC = 240) := Lib.hid (by unfold Rv.stopC; rw [if_pos hc])
  have HS : Hid (R.stopS = { R with cut := R.cut - 1 }) := Lib.hid (by unfold Rv.stopS Rv.cutd; rw [if_pos hc, if_pos (by omega)])
  have HF : Hid (RetP r R.stopS w (.int .i64 R.stopC) (.returned (.int .i64 240)) (w.setCell ⟨r, 6, none⟩ (.int .i64 (R.cut - 1)))) := Lib.hid ⟨by rw [HC.out], ⟨vk, by rw [HS.out]; exact h0⟩, (Kt.refl _ _ _).setCell _ _⟩
  rw [hc] at c6
  simp only [hc, show (1 : Int) - 1 = 0 from rfl] at HF

  generalize R.brk = y at *
  clear h HC HS h0 hc
  go_enter Try.func40, Try.ntmps40
  go_wp2
  go_ret
  exact HF.out

set_option maxRecDepth 100000 in
theorem stop_more_one (r : Nat) (R : Rv) (w : World) (h : Rk r R w) (i1 : I64 R.cut) (i2 : I64 R.brk) (hc : 1 < R.cut) (hb : R.brk = 1) : Calls Try.prog 40 #[.pointer (some ⟨r, 0, none⟩)] w (RetP r R.stopS w (.int .i64 R.stopC)) := by
  obtain ⟨vk, h⟩ := h
  obtain ⟨-, -, -, -, -, -, c6, -, c8, c9⟩ := h.cells
  have f6 := h.loose 6
  have f8 := h.loose 8
  have f9 := h.loose 9
  obtain ⟨i1a, i1b⟩ := i1
  obtain ⟨i2a, i2b⟩ := i2
  have h0 := h.set (R' := { R with cut := R.cut - 1 }) 6 (.int .i64 (R.cut - 1)) rfl rfl
  have h1 := h0.set (R' := { R with cut := R.cut - 1, brk := R.brk - 1 }) 8 (.int .i64 (R.brk - 1)) rfl rfl
  have h2 := h1.set (R' := { R with cut := R.cut - 1, brk := R.brk - 1, isf := true }) 9 (.bool true) rfl rfl
  have HC : Hid (R.stopC = 241) := Lib.hid (by unfold Rv.stopC; rw [if_neg (show ¬ R.cut = 1 by omega), show R.brkd.isf = true by (unfold Rv.brkd; rw [if_pos (show (0 : Int) < R.brk by omega), if_pos (show R.brk = 1 by omega)])]; rfl)
  have HS : Hid (R.stopS = { R with cut := R.cut - 1, brk := R.brk - 1, isf := true }) := Lib.hid (by unfold Rv.stopS; rw [if_neg (show ¬ R.cut = 1 by omega)]; rw [show R.cutd = { R with cut := R.cut - 1 } by unfold Rv.cutd; rw [if_pos (by omega)]]; unfold Rv.brkd; rw [if_pos (show (0 : Int) < R.brk by omega), if_pos (show R.brk = 1 by omega)])
  have HF : Hid (RetP r R.stopS w (.int .i64 R.stopC) (.returned (.int .i64 241)) (((w.setCell ⟨r, 6, none⟩ (.int .i64 (R.cut - 1))).setCell ⟨r, 8, none⟩ (.int .i64 (R.brk - 1))).setCell ⟨r, 9, none⟩ (.bool true))) := Lib.hid ⟨by rw [HC.out], ⟨vk, by rw [HS.out]; exact h2⟩, (((Kt.refl _ _ _).setCell _ _).setCell _ _).setCell _ _⟩
  rw [hb] at c8
  simp only [hb, show (1 : Int) - 1 = 0 from rfl] at HF
  generalize R.cut = x at *
  clear h HC HS h0 h1 h2 hb
  go_enter Try.func40, Try.ntmps40
  go_wp2
  go_ret
  exact HF.out

set_option maxRecDepth 100000 in
theorem stop_more_more_true (r : Nat) (R : Rv) (w : World) (h : Rk r R w) (i1 : I64 R.cut) (i2 : I64 R.brk) (hc : 1 < R.cut) (hb : 1 < R.brk) (hf : R.isf = true) : Calls Try.prog 40 #[.pointer (some ⟨r, 0, none⟩)] w (RetP r R.stopS w (.int .i64 R.stopC)) := by
  obtain ⟨vk, h⟩ := h
  obtain ⟨-, -, -, -, -, -, c6, -, c8, c9⟩ := h.cells
  have f6 := h.loose 6
  have f8 := h.loose 8
  have f9 := h.loose 9
  obtain ⟨i1a, i1b⟩ := i1
  obtain ⟨i2a, i2b⟩ := i2
  have h0 := h.set (R' := { R with cut := R.cut - 1 }) 6 (.int .i64 (R.cut - 1)) rfl rfl
  have h1 := h0.set (R' := { R with cut := R.cut - 1, brk := R.brk - 1 }) 8 (.int .i64 (R.brk - 1)) rfl rfl
  have HC : Hid (R.stopC = 241) := Lib.hid (by unfold Rv.stopC; rw [if_neg (show ¬ R.cut = 1 by omega), show R.brkd.isf = true by (unfold Rv.brkd; rw [if_pos (show (0 : Int) < R.brk by omega), if_neg (show ¬ R.brk = 1 by omega)]; exact hf)]; rfl)
  have HS : Hid (R.stopS = { R with cut := R.cut - 1, brk := R.brk - 1 }) := Lib.hid (by unfold Rv.stopS; rw [if_neg (show ¬ R.cut = 1 by omega)]; rw [show R.cutd = { R with cut := R.cut - 1 } by unfold Rv.cutd; rw [if_pos (by omega)]]; unfold Rv.brkd; rw [if_pos (show (0 : Int) < R.brk by omega), if_neg (show ¬ R.brk = 1 by omega)])
  have HF : Hid (RetP r R.stopS w (.int .i64 R.stopC) (.returned (.int .i64 241)) ((w.setCell ⟨r, 6, none⟩ (.int .i64 (R.cut - 1))).setCell ⟨r, 8, none⟩ (.int .i64 (R.brk - 1)))) := Lib.hid ⟨by rw [HC.out], ⟨vk, by rw [HS.out]; exact h1⟩, ((Kt.refl _ _ _).setCell _ _).setCell _ _⟩
  rw [hf] at c9
  generalize R.cut = x at *
  generalize R.brk = y at *
  clear h HC HS h0 h1 hf
  go_enter Try.func40, Try.ntmps40
  go_wp2
  go_ret
  exact HF.out

set_option maxRecDepth 100000 in
theorem stop_more_more_false (r : Nat) (R : Rv) (w : World) (h : Rk r R w) (i1 : I64 R.cut) (i2 : I64 R.brk) (hc : 1 < R.cut) (hb : 1 < R.brk) (hf : R.isf = false) : Calls Try.prog 40 #[.pointer (some ⟨r, 0, none⟩)] w (RetP r R.stopS w (.int .i64 R.stopC)) := by
  obtain ⟨vk, h⟩ := h
  obtain ⟨-, -, -, -, -, -, c6, -, c8, c9⟩ := h.cells
  have f6 := h.loose 6
  have f8 := h.loose 8
  have f9 := h.loose 9
  obtain ⟨i1a, i1b⟩ := i1
  obtain ⟨i2a, i2b⟩ := i2
  have h0 := h.set (R' := { R with cut := R.cut - 1 }) 6 (.int .i64 (R.cut - 1)) rfl rfl
  have h1 := h0.set (R' := { R with cut := R.cut - 1, brk := R.brk - 1 }) 8 (.int .i64 (R.brk - 1)) rfl rfl
  have HC : Hid (R.stopC = 0) := Lib.hid (by unfold Rv.stopC; rw [if_neg (show ¬ R.cut = 1 by omega), show R.brkd.isf = false by (unfold Rv.brkd; rw [if_pos (show (0 : Int) < R.brk by omega), if_neg (show ¬ R.brk = 1 by omega)]; exact hf)]; rfl)
  have HS : Hid (R.stopS = { R with cut := R.cut - 1, brk := R.brk - 1 }) := Lib.hid (by unfold Rv.stopS; rw [if_neg (show ¬ R.cut = 1 by omega)]; rw [show R.cutd = { R with cut := R.cut - 1 } by unfold Rv.cutd; rw [if_pos (by omega)]]; unfold Rv.brkd; rw [if_pos (show (0 : Int) < R.brk by omega), if_neg (show ¬ R.brk = 1 by omega)])
  have HF : Hid (RetP r R.stopS w (.int .i64 R.stopC) (.returned (.int .i64 0)) ((w.setCell ⟨r, 6, none⟩ (.int .i64 (R.cut - 1))).setCell ⟨r, 8, none⟩ (.int .i64 (R.brk - 1)))) := Lib.hid ⟨by rw [HC.out], ⟨vk, by rw [HS.out]; exact h1⟩, ((Kt.refl _ _ _).setCell _ _).setCell _ _⟩
  rw [hf] at c9
  generalize R.cut = x at *
  generalize R.brk = y at *
  clear h HC HS h0 h1 hf
  go_enter Try.func40, Try.ntmps40
  go_wp2
  go_ret
  exact HF.out

set_option maxRecDepth 100000 in
theorem stop_more_no_true (r : Nat) (R : Rv) (w : World) (h : Rk r R w) (i1 : I64 R.cut) (i2 : I64 R.brk) (hc : 1 < R.cut) (hb : R.brk < 1) (hf : R.isf = true) : Calls Try.prog 40 #[.pointer (some ⟨r, 0, none⟩)] w (RetP r R.stopS w (.int .i64 R.stopC)) := by
  obtain ⟨vk, h⟩ := h
  obtain ⟨-, -, -, -, -, -, c6, -, c8, c9⟩ := h.cells
  have f6 := h.loose 6
  have f8 := h.loose 8
  have f9 := h.loose 9
  obtain ⟨i1a, i1b⟩ := i1
  obtain ⟨i2a, i2b⟩ := i2
  have h0 := h.set (R' := { R with cut := R.cut - 1 }) 6 (.int .i64 (R.cut - 1)) rfl rfl
  have HC : Hid (R.stopC = 241) := Lib.hid (by unfold Rv.stopC; rw [if_neg (show ¬ R.cut = 1 by omega), show R.brkd.isf = true by (unfold Rv.brkd; rw [if_neg (show ¬ (0 : Int) < R.brk by omega)]; exact hf)]; rfl)
  have HS : Hid (R.stopS = { R with cut := R.cut - 1 }) := Lib.hid (by unfold Rv.stopS; rw [if_neg (show ¬ R.cut = 1 by omega)]; rw [show R.cutd = { R with cut := R.cut - 1 } by unfold Rv.cutd; rw [if_pos (by omega)]]; unfold Rv.brkd; rw [if_neg (show ¬ (0 : Int) < R.brk by omega)])
  have HF : Hid (RetP r R.stopS w (.int .i64 R.stopC) (.returned (.int .i64 241)) (w.setCell ⟨r, 6, none⟩ (.int .i64 (R.cut - 1)))) := Lib.hid ⟨by rw [HC.out], ⟨vk, by rw [HS.out]; exact h0⟩, (Kt.refl _ _ _).setCell _ _⟩
  rw [hf] at c9
  generalize R.cut = x at *
  generalize R.brk = y at *
  clear h HC HS h0 hf
  go_enter Try.func40, Try.ntmps40
  go_wp2
  go_ret
  exact HF.out

set_option maxRecDepth 100000 in
theorem stop_more_no_false (r : Nat) (R : Rv) (w : World) (h : Rk r R w) (i1 : I64 R.cut) (i2 : I64 R.brk) (hc : 1 < R.cut) (hb : R.brk < 1) (hf : R.isf = false) : Calls Try.prog 40 #[.pointer (some ⟨r, 0, none⟩)] w (RetP r R.stopS w (.int .i64 R.stopC)) := by
  obtain ⟨vk, h⟩ := h
  obtain ⟨-, -, -, -, -, -, c6, -, c8, c9⟩ := h.cells
  have f6 := h.loose 6
  have f8 := h.loose 8
  have f9 := h.loose 9
  obtain ⟨i1a, i1b⟩ := i1
  obtain ⟨i2a, i2b⟩ := i2
  have h0 := h.set (R' := { R with cut := R.cut - 1 }) 6 (.int .i64 (R.cut - 1)) rfl rfl
  have HC : Hid (R.stopC = 0) := Lib.hid (by unfold Rv.stopC; rw [if_neg (show ¬ R.cut = 1 by omega), show R.brkd.isf = false by (unfold Rv.brkd; rw [if_neg (show ¬ (0 : Int) < R.brk by omega)]; exact hf)]; rfl)
  have HS : Hid (R.stopS = { R with cut := R.cut - 1 }) := Lib.hid (by unfold Rv.stopS; rw [if_neg (show ¬ R.cut = 1 by omega)]; rw [show R.cutd = { R with cut := R.cut - 1 } by unfold Rv.cutd; rw [if_pos (by omega)]]; unfold Rv.brkd; rw [if_neg (show ¬ (0 : Int) < R.brk by omega)])
  have HF : Hid (RetP r R.stopS w (.int .i64 R.stopC) (.returned (.int .i64 0)) (w.setCell ⟨r, 6, none⟩ (.int .i64 (R.cut - 1)))) := Lib.hid ⟨by rw [HC.out], ⟨vk, by rw [HS.out]; exact h0⟩, (Kt.refl _ _ _).setCell _ _⟩
  rw [hf] at c9
  generalize R.cut = x at *
  generalize R.brk = y at *
  clear h HC HS h0 hf
  go_enter Try.func40, Try.ntmps40
  go_wp2
  go_ret
  exact HF.out

set_option maxRecDepth 100000 in
theorem stop_no_one (r : Nat) (R : Rv) (w : World) (h : Rk r R w) (i1 : I64 R.cut) (i2 : I64 R.brk) (hc : R.cut < 1) (hb : R.brk = 1) : Calls Try.prog 40 #[.pointer (some ⟨r, 0, none⟩)] w (RetP r R.stopS w (.int .i64 R.stopC)) := by
  obtain ⟨vk, h⟩ := h
  obtain ⟨-, -, -, -, -, -, c6, -, c8, c9⟩ := h.cells
  have f6 := h.loose 6
  have f8 := h.loose 8
  have f9 := h.loose 9
  obtain ⟨i1a, i1b⟩ := i1
  obtain ⟨i2a, i2b⟩ := i2
  have h0 := h.set (R' := { R with brk := R.brk - 1 }) 8 (.int .i64 (R.brk - 1)) rfl rfl
  have h1 := h0.set (R' := { R with brk := R.brk - 1, isf := true }) 9 (.bool true) rfl rfl
  have HC : Hid (R.stopC = 241) := Lib.hid (by unfold Rv.stopC; rw [if_neg (show ¬ R.cut = 1 by omega), show R.brkd.isf = true by (unfold Rv.brkd; rw [if_pos (show (0 : Int) < R.brk by omega), if_pos (show R.brk = 1 by omega)])]; rfl)
  have HS : Hid (R.stopS = { R with brk := R.brk - 1, isf := true }) := Lib.hid (by unfold Rv.stopS; rw [if_neg (show ¬ R.cut = 1 by omega)]; rw [show R.cutd = R by unfold Rv.cutd; rw [if_neg (by omega)]]; unfold Rv.brkd; rw [if_pos (show (0 : Int) < R.brk by omega), if_pos (show R.brk = 1 by omega)])
  have HF : Hid (RetP r R.stopS w (.int .i64 R.stopC) (.returned (.int .i64 241)) ((w.setCell ⟨r, 8, none⟩ (.int .i64 (R.brk - 1))).setCell ⟨r, 9, none⟩ (.bool true))) := Lib.hid ⟨by rw [HC.out], ⟨vk, by rw [HS.out]; exact h1⟩, ((Kt.refl _ _ _).setCell _ _).setCell _ _⟩
  rw [hb] at c8
  simp only [hb, show (1 : Int) - 1 = 0 from rfl] at HF
  generalize R.cut = x at *
  clear h HC HS h0 h1 hb
  go_enter Try.func40, Try.ntmps40
  go_wp2
  go_ret
  exact HF.out

set_option maxRecDepth 100000 in
theorem stop_no_more_true (r : Nat) (R : Rv) (w : World) (h : Rk r R w) (i1 : I64 R.cut) (i2 : I64 R.brk) (hc : R.cut < 1) (hb : 1 < R.brk) (hf : R.isf = true) : Calls Try.prog 40 #[.pointer (some ⟨r, 0, none⟩)] w (RetP r R.stopS w (.int .i64 R.stopC)) := by
  obtain ⟨vk, h⟩ := h
  obtain ⟨-, -, -, -, -, -, c6, -, c8, c9⟩ := h.cells
  have f6 := h.loose 6
  have f8 := h.loose 8
  have f9 := h.loose 9
  obtain ⟨i1a, i1b⟩ := i1
  obtain ⟨i2a, i2b⟩ := i2
  have h0 := h.set (R' := { R with brk := R.brk - 1 }) 8 (.int .i64 (R.brk - 1)) rfl rfl
  have HC : Hid (R.stopC = 241) := Lib.hid (by unfold Rv.stopC; rw [if_neg (show ¬ R.cut = 1 by omega), show R.brkd.isf = true by (unfold Rv.brkd; rw [if_pos (show (0 : Int) < R.brk by omega), if_neg (show ¬ R.brk = 1 by omega)]; exact hf)]; rfl)
  have HS : Hid (R.stopS = { R with brk := R.brk - 1 }) := Lib.hid (by unfold Rv.stopS; rw [if_neg (show ¬ R.cut = 1 by omega)]; rw [show R.cutd = R by unfold Rv.cutd; rw [if_neg (by omega)]]; unfold Rv.brkd; rw [if_pos (show (0 : Int) < R.brk by omega), if_neg (show ¬ R.brk = 1 by omega)])
  have HF : Hid (RetP r R.stopS w (.int .i64 R.stopC) (.returned (.int .i64 241)) (w.setCell ⟨r, 8, none⟩ (.int .i64 (R.brk - 1)))) := Lib.hid ⟨by rw [HC.out], ⟨vk, by rw [HS.out]; exact h0⟩, (Kt.refl _ _ _).setCell _ _⟩
  rw [hf] at c9
  generalize R.cut = x at *
  generalize R.brk = y at *
  clear h HC HS h0 hf
  go_enter Try.func40, Try.ntmps40
  go_wp2
  go_ret
  exact HF.out

set_option maxRecDepth 100000 in
theorem stop_no_more_false (r : Nat) (R : Rv) (w : World) (h : Rk r R w) (i1 : I64 R.cut) (i2 : I64 R.brk) (hc : R.cut < 1) (hb : 1 < R.brk) (hf : R.isf = false) : Calls Try.prog 40 #[.pointer (some ⟨r, 0, none⟩)] w (RetP r R.stopS w (.int .i64 R.stopC)) := by
  obtain ⟨vk, h⟩ := h
  obtain ⟨-, -, -, -, -, -, c6, -, c8, c9⟩ := h.cells
  have f6 := h.loose 6
  have f8 := h.loose 8
  have f9 := h.loose 9
  obtain ⟨i1a, i1b⟩ := i1
  obtain ⟨i2a, i2b⟩ := i2
  have h0 := h.set (R' := { R with brk := R.brk - 1 }) 8 (.int .i64 (R.brk - 1)) rfl rfl
  have HC : Hid (R.stopC = 0) := Lib.hid (by unfold Rv.stopC; rw [if_neg (show ¬ R.cut = 1 by omega), show R.brkd.isf = false by (unfold Rv.brkd; rw [if_pos (show (0 : Int) < R.brk by omega), if_neg (show ¬ R.brk = 1 by omega)]; exact hf)]; rfl)
  have HS : Hid (R.stopS = { R with brk := R.brk - 1 }) := Lib.hid (by unfold Rv.stopS; rw [if_neg (show ¬ R.cut = 1 by omega)]; rw [show R.cutd = R by unfold Rv.cutd; rw [if_neg (by omega)]]; unfold Rv.brkd; rw [if_pos (show (0 : Int) < R.brk by omega), if_neg (show ¬ R.brk = 1 by omega)])
  have HF : Hid (RetP r R.stopS w (.int .i64 R.stopC) (.returned (.int .i64 0)) (w.setCell ⟨r, 8, none⟩ (.int .i64 (R.brk - 1)))) := Lib.hid ⟨by rw [HC.out], ⟨vk, by rw [HS.out]; exact h0⟩, (Kt.refl _ _ _).setCell _ _⟩
  rw [hf] at c9
  generalize R.cut = x at *
  generalize R.brk = y at *
  clear h HC HS h0 hf
  go_enter Try.func40, Try.ntmps40
  go_wp2
  go_ret
  exact HF.out

set_option maxRecDepth 100000 in
theorem stop_no_no_true (r : Nat) (R : Rv) (w : World) (h : Rk r R w) (i1 : I64 R.cut) (i2 : I64 R.brk) (hc : R.cut < 1) (hb : R.brk < 1) (hf : R.isf = true) : Calls Try.prog 40 #[.pointer (some ⟨r, 0, none⟩)] w (RetP r R.stopS w (.int .i64 R.stopC)) := by
  obtain ⟨vk, h⟩ := h
  obtain ⟨-, -, -, -, -, -, c6, -, c8, c9⟩ := h.cells
  have f6 := h.loose 6
  have f8 := h.loose 8
  have f9 := h.loose 9
  obtain ⟨i1a, i1b⟩ := i1
  obtain ⟨i2a, i2b⟩ := i2
  have HC : Hid (R.stopC = 241) := Lib.hid (by unfold Rv.stopC; rw [if_neg (show ¬ R.cut = 1 by omega), show R.brkd.isf = true by (unfold Rv.brkd; rw [if_neg (show ¬ (0 : Int) < R.brk by omega)]; exact hf)]; rfl)
  have HS : Hid (R.stopS = R) := Lib.hid (by unfold Rv.stopS; rw [if_neg (show ¬ R.cut = 1 by omega)]; rw [show R.cutd = R by unfold Rv.cutd; rw [if_neg (by omega)]]; unfold Rv.brkd; rw [if_neg (show ¬ (0 : Int) < R.brk by omega)])
  have HF : Hid (RetP r R.stopS w (.int .i64 R.stopC) (.returned (.int .i64 241)) w) := Lib.hid ⟨by rw [HC.out], ⟨vk, by rw [HS.out]; exact h⟩, Kt.refl _ _ _⟩
  rw [hf] at c9
  generalize R.cut = x at *
  generalize R.brk = y at *
  clear h HC HS  hf
  go_enter Try.func40, Try.ntmps40
  go_wp2
  go_ret
  exact HF.out

set_option maxRecDepth 100000 in
theorem stop_no_no_false (r : Nat) (R : Rv) (w : World) (h : Rk r R w) (i1 : I64 R.cut) (i2 : I64 R.brk) (hc : R.cut < 1) (hb : R.brk < 1) (hf : R.isf = false) : Calls Try.prog 40 #[.pointer (some ⟨r, 0, none⟩)] w (RetP r R.stopS w (.int .i64 R.stopC)) := by
  obtain ⟨vk, h⟩ := h
  obtain ⟨-, -, -, -, -, -, c6, -, c8, c9⟩ := h.cells
  have f6 := h.loose 6
  have f8 := h.loose 8
  have f9 := h.loose 9
  obtain ⟨i1a, i1b⟩ := i1
  obtain ⟨i2a, i2b⟩ := i2
  have HC : Hid (R.stopC = 0) := Lib.hid (by unfold Rv.stopC; rw [if_neg (show ¬ R.cut = 1 by omega), show R.brkd.isf = false by (unfold Rv.brkd; rw [if_neg (show ¬ (0 : Int) < R.brk by omega)]; exact hf)]; rfl)
  have HS : Hid (R.stopS = R) := Lib.hid (by unfold Rv.stopS; rw [if_neg (show ¬ R.cut = 1 by omega)]; rw [show R.cutd = R by unfold Rv.cutd; rw [if_neg (by omega)]]; unfold Rv.brkd; rw [if_neg (show ¬ (0 : Int) < R.brk by omega)])
  have HF : Hid (RetP r R.stopS w (.int .i64 R.stopC) (.returned (.int .i64 0)) w) := Lib.hid ⟨by rw [HC.out], ⟨vk, by rw [HS.out]; exact h⟩, Kt.refl _ _ _⟩
  rw [hf] at c9
  generalize R.cut = x at *
  generalize R.brk = y at *
  clear h HC HS  hf
  go_enter Try.func40, Try.ntmps40
  go_wp2
  go_ret
  exact HF.out

theorem stop_any (r : Nat) (R : Rv) (w : World) (h : Rk r R w) (i1 : I64 R.cut) (i2 : I64 R.brk) : Calls Try.prog 40 #[.pointer (some ⟨r, 0, none⟩)] w (RetP r R.stopS w (.int .i64 R.stopC)) := by
  by_cases hc : R.cut = 1
  · exact stop_cut r R w h i1 i2 hc
  · by_cases hc2 : 1 < R.cut
    · by_cases hb : R.brk = 1
      · exact stop_more_one r R w h i1 i2 hc2 hb
      · by_cases hb2 : 1 < R.brk
        · cases hf : R.isf
          · exact stop_more_more_false r R w h i1 i2 hc2 hb2 hf
          · exact stop_more_more_true r R w h i1 i2 hc2 hb2 hf
        · cases hf : R.isf
          · exact stop_more_no_false r R w h i1 i2 hc2 (by omega) hf
          · exact stop_more_no_true r R w h i1 i2 hc2 (by omega) hf
    · by_cases hb : R.brk = 1
      · exact stop_no_one r R w h i1 i2 (by omega) hb
      · by_cases hb2 : 1 < R.brk
        · cases hf : R.isf
          · exact stop_no_more_false r R w h i1 i2 (by omega) hb2 hf
          · exact stop_no_more_true r R w h i1 i2 (by omega) hb2 hf
        · cases hf : R.isf
          · exact stop_no_no_false r R w h i1 i2 (by omega) (by omega) hf
          · exact stop_no_no_true r R w h i1 i2 (by omega) (by omega) hf
end Go.Proofs.Ytdgljfoghonbaaa
