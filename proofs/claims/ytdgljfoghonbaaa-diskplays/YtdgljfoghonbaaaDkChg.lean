/- A change of the disk. -/
import Derived.Test.YtdgljfoghonbaaaDkClos
namespace Go.Proofs.Ytdgljfoghonbaaa
open Go.RowKit DK

/-- One int in the disk counted down. -/
def DQ (w : World) (d : Nat) (D : Dv) (x y : Bool) (W : World) : Prop := Kt 5 d w W ∧ Dk d { D with cut := if x = true then DK.due D.cut else D.cut, full := if y = true then DK.due D.full else D.full } W
theorem dueX (w : World) (d : Nat) (D : Dv) (y : Bool) (W : World) (hD : I64 D.cut) (h : DQ w d D false y W) : Calls Try.prog 43 #[.pointer (some ⟨d, 6, none⟩)] W fun e W' => e = .returned (.bool (decide (D.cut = 1))) ∧ DQ w d D true y W' := by
  obtain ⟨hk, va, vb, h⟩ := h
  refine (due_run ⟨d, 6, none⟩ D.cut W hD (by rw [cell_heap h.1]; rfl) (h.loose 6)).mono ?_
  rintro e W' ⟨rfl, rfl⟩
  refine ⟨rfl, ?_⟩
  unfold DQ
  rw [if_pos rfl]
  unfold DK.due
  split
  · exact ⟨hk.setCell _ _, va, vb, h.set 6 _ rfl rfl rfl⟩
  · exact ⟨hk, va, vb, h⟩
theorem dueY (w : World) (d : Nat) (D : Dv) (x : Bool) (W : World) (hD : I64 D.full) (h : DQ w d D x false W) : Calls Try.prog 43 #[.pointer (some ⟨d, 9, none⟩)] W fun e W' => e = .returned (.bool (decide (D.full = 1))) ∧ DQ w d D x true W' := by
  obtain ⟨hk, va, vb, h⟩ := h
  refine (due_run ⟨d, 9, none⟩ D.full W hD (by rw [cell_heap h.1]; rfl) (h.loose 9)).mono ?_
  rintro e W' ⟨rfl, rfl⟩
  refine ⟨rfl, ?_⟩
  unfold DQ
  rw [if_pos rfl]
  unfold DK.due
  split
  · exact ⟨hk.setCell _ _, va, vb, h.set 9 _ rfl rfl rfl⟩
  · exact ⟨hk, va, vb, h⟩
/-- What a change answers. -/
def ChgP (d : Nat) (c : Int) (D : Dv) (w : World) (e : Ending) (w' : World) : Prop := e = .returned (.int .u8 c) ∧ Dk d D w' ∧ Kt 5 d w w'

theorem Kept2.own {d : Nat} {D : Dv} {w : World} (h : Dk d D w) : Kept2 d D w (some ⟨d, 7, none⟩) 2 D.k0 D.k1 := by
  obtain ⟨va, vb, h⟩ := h
  refine .inr ⟨d, 7, rfl, by rw [cell_heap h.1]; rfl, .inr ⟨Nat.le_refl _, fun w' _ h' => ?_⟩⟩
  obtain ⟨va', vb', h'⟩ := h'
  rw [cell_heap h'.1]
  rfl

set_option maxRecDepth 100000 in
set_option maxHeartbeats 2000000 in
theorem change_any (d : Nat) (D : Dv) (K1 K2 : FuncId) (p1 p2 : Array Value) (does loss : Dv → Dv) (w : World)
    (hK1 : ∀ (args : Array Value) (W : World), (callFunc K1 args).run Try.prog W = .ok (.enter K1 args) W) (hK2 : ∀ (args : Array Value) (W : World), (callFunc K2 args).run Try.prog W = .ok (.enter K2 args) W)
    (hC1 : ∀ W, Kt 5 d w W → Dk d D.due W → Calls Try.prog K1 p1 W (LostP d (does D.due) W)) (hC2 : ∀ W, Kt 5 d w W → Dk d D.due W → Calls Try.prog K2 p2 W (LostP d (loss D.due) W))
    (hl0 : (loss D.due).k0 = D.k0) (hl1 : (loss D.due).k1 = D.k1) (hlo : (loss D.due).Ok) (h : Dk d D w) (ho : D.Ok) :
    Calls Try.prog 35 #[.pointer (some ⟨d, 0, none⟩), .func (.func K1) #[] p1, .func (.func K2) #[] p2] w (ChgP d D.chgC (D.chg does loss) w) := by
  obtain ⟨-, -, -, -, i6, i7, i8, i9⟩ := id ho
  have FX := Lib.hid (fun y W h => dueX w d D y W i6 h)
  have FY := Lib.hid (fun x W h => dueY w d D x W i9 h)
  have HQ : Hid (DQ w d D false false w.drew) := Lib.hid ⟨(Kt.refl _ _ _).drewN 1, h⟩
  have C1 := Lib.hid hC1
  have C2 := Lib.hid hC2
  have CL := Lib.hid (fun W (hk : Kt 5 d w W) (h : Dk d (loss D.due) W) => dlose_any d (loss D.due) (some ⟨d, 7, none⟩) 2 2 D.k0 D.k1 W i7 i8 (by unfold maxLen; omega) (hl0 ▸ hl1 ▸ Kept2.own h) h hlo)
  have HE : Hid (D.chgC = if D.cut = 1 then 240 else if D.full = 1 then 241 else 0) := Lib.hid rfl
  have HD : Hid (D.chg does loss = if D.cut = 1 then { (loss D.due).lose D.k0 D.k1 with off := true } else if D.full = 1 then D.due else does D.due) := Lib.hid rfl
  have E1 : ∀ (W : World), (callFunc K1 p1).run Try.prog W = .ok (.enter K1 p1) W := fun W => hK1 p1 W
  have E2 : ∀ (W : World), (callFunc K2 p2).run Try.prog W = .ok (.enter K2 p2) W := fun W => hK2 p2 W
  clear hC1 hC2 hl0 hl1 hlo h ho i6 i7 i8 i9 hK1 hK2
  obtain ⟨DF, hDF⟩ : ∃ DF, DF = D.chg does loss := ⟨_, rfl⟩
  rw [← hDF] at HD ⊢
  clear hDF
  by_cases hc : D.cut = 1
  · rw [if_pos hc] at HE HD
    rw [HE.out]
    rw [decide_eq_true hc] at FX
    generalize decide (D.full = 1) = b2 at FY
    clear hc HE C1 E1
    go_enter Try.func35, Try.ntmps35
    go_wp2_with fail
    go_region_law (first | (go_simp; go_at_call 43; refine (FX.out _ _ HQ.out).mono ?_; rintro e w1 ⟨rfl, hq⟩; replace HQ := Lib.hid hq; clear hq) | (go_simp; go_at_call 43; refine (FY.out _ _ HQ.out).mono ?_; rintro e w1 ⟨rfl, hq⟩; replace HQ := Lib.hid hq; clear hq))
    all_goals
      obtain ⟨hk, hq⟩ := HQ.out
      have hq2 : Dk d D.due _ := hq
      have X2 := Lib.hid (C2.out _ hk hq2)
      have HK := Lib.hid hk
      clear HQ hk hq hq2 FX FY C2
      go_wp2_with fail
      refine X2.out.mono ?_
      rintro e w2 ⟨rfl, h2, k2⟩
      have XL := Lib.hid (CL.out w2 (HK.out.trans k2) h2)
      have HK2 := Lib.hid (HK.out.trans k2)
      clear X2 h2 k2 HK CL
      go_wp2_with fail
      refine XL.out.mono ?_
      rintro e w3 ⟨rfl, ⟨va, vb, h3⟩, k3⟩
      have HF : Hid (ChgP d 240 DF w (.returned (.int .u8 240)) (w3.setCell ⟨d, 5, none⟩ (.bool true))) := Lib.hid ⟨rfl, by rw [HD.out]; exact ⟨va, vb, h3.set 5 (.bool true) rfl rfl rfl⟩, (HK2.out.trans k3).setCell 5 _⟩
      have q5 : w3.cell? ⟨d, 5, none⟩ = some (.bool (loss D.due).off) := by rw [cell_heap h3.1]; rfl
      have f5 := h3.loose 5
      clear XL h3 k3 HK2 HD
      go_wp2_with fail
      go_ret
      exact HF.out
  · rw [if_neg hc] at HE HD
    rw [HE.out]
    rw [decide_eq_false hc] at FX
    clear HE hc C2 E2 CL
    by_cases hf : D.full = 1
    · rw [if_pos hf] at HD ⊢
      rw [decide_eq_true hf] at FY
      clear hf C1 E1
      go_enter Try.func35, Try.ntmps35
      go_wp2_with fail
      go_region_law (first | (go_simp; go_at_call 43; refine (FX.out _ _ HQ.out).mono ?_; rintro e w1 ⟨rfl, hq⟩; replace HQ := Lib.hid hq; clear hq) | (go_simp; go_at_call 43; refine (FY.out _ _ HQ.out).mono ?_; rintro e w1 ⟨rfl, hq⟩; replace HQ := Lib.hid hq; clear hq))
      all_goals
        have HF : Hid (ChgP d 241 DF w (.returned (.int .u8 241)) _) := Lib.hid ⟨rfl, by rw [HD.out]; exact HQ.out.2, HQ.out.1⟩
        clear HQ FX FY HD
        go_wp2_with fail
        go_ret
        exact HF.out
    · rw [if_neg hf] at HD ⊢
      rw [decide_eq_false hf] at FY
      clear hf
      go_enter Try.func35, Try.ntmps35
      go_wp2_with fail
      go_region_law (first | (go_simp; go_at_call 43; refine (FX.out _ _ HQ.out).mono ?_; rintro e w1 ⟨rfl, hq⟩; replace HQ := Lib.hid hq; clear hq) | (go_simp; go_at_call 43; refine (FY.out _ _ HQ.out).mono ?_; rintro e w1 ⟨rfl, hq⟩; replace HQ := Lib.hid hq; clear hq))
      all_goals
        obtain ⟨hk, hq⟩ := HQ.out
        have hq2 : Dk d D.due _ := hq
        have X1 := Lib.hid (C1.out _ hk hq2)
        have HK := Lib.hid hk
        clear HQ hk hq hq2 FX FY C1
        go_wp2_with fail
        refine X1.out.mono ?_
        rintro e w2 ⟨rfl, h2, k2⟩
        have HF : Hid (ChgP d 0 DF w (.returned (.int .u8 0)) w2) := Lib.hid ⟨rfl, by rw [HD.out]; exact h2, HK.out.trans k2⟩
        clear X1 h2 k2 HK HD
        go_wp2_with fail
        go_ret
        exact HF.out
end Go.Proofs.Ytdgljfoghonbaaa
