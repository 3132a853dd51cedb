/- The disk's Cut. -/
import Derived.Test.YtdgljfoghonbaaaDkCrash
import Derived.Deep.CutBlock
import Derived.Room.AppendFits
import Derived.Deep.Cut
namespace Go.Proofs.Ytdgljfoghonbaaa
open Go.RowKit DK

theorem cut_nil (n : Int) (A : Option Addr) (m cap : Nat) (w : World) : Calls Try.prog 17 #[.pointer none, .int .i64 n, .slice A m cap] w fun e w' => e = .returned (.tuple #[]) ∧ w = w' := by
  go_enter Try.func17, Try.ntmps17
  go_wp2
  refine bodyPost_ret (results_none rfl _ _ _) rfl ?_
  exact ⟨rfl, rfl⟩
theorem intSize : (Try.prog.info? 3).map (·.size) = some 1 := by kernel_rfl

theorem DkAt.row {d : Nat} {D D' : Dv} {va vb : Value} {w w' : World} {cs : Array Value} (h : DkAt d D va vb w) (ha : D'.a.s = D.a.s) (hb : D'.b.s = D.b.s) (hg : w.grownBy w' (some d)) (hc : w'.heap[d]? = some (.cells cs 52 (0, 0))) (he : cs = dkCells D' va vb) : DkAt d D' va vb w' := by
  obtain ⟨n1, n2⟩ := h.ne
  obtain ⟨h1, h2, h3, h4⟩ := h
  exact ⟨by rw [hc, he], by rw [ha]; exact own_only h2 hg n1, by rw [hb]; exact own_only h3 hg n2, h4⟩
theorem grown_row {w : World} {d : Nat} (cs : Array Value) : w.grownBy (w.setRow d cs) (some d) :=
  ⟨rfl, rfl, rfl, by simp [World.setRow], fun k _ hne => setRow_other w d k cs (fun e => hne (by rw [e]))⟩

set_option maxRecDepth 100000 in
set_option maxHeartbeats 1000000 in
theorem cut_any (d : Nat) (D : Dv) (n : Int) (A : Option Addr) (l : List Int) (cap : Nat) (w : World) (H : KInts d w A l) (h : Dk d D w) :
    Calls Try.prog 17 #[.pointer (some ⟨d, 0, none⟩), .int .i64 n, .slice A l.length cap] w (LostP d (D.asks n (at_ l 0) (at_ l 1)) w) := by
  obtain ⟨va, vb, h⟩ := h
  obtain ⟨-, -, -, -, -, -, c6, c7, c8, -⟩ := h.cells
  have f6 := h.loose 6
  have f7 := h.loose 7
  have f8 := h.loose 8
  have hlt := lt_heap h.1
  have h1 := h.set (D' := { D with cut := n }) 6 (.int .i64 n) rfl rfl rfl
  have h2 := h1.set (D' := { D with cut := n, k0 := 0 }) 7 (.int .i64 0) rfl rfl rfl
  have h3 := h2.set (D' := { D with cut := n, k0 := 0, k1 := 0 }) 8 (.int .i64 0) rfl rfl rfl
  have HK := Lib.hid ((((Kt.refl 5 d w).setCell 6 (.int .i64 n)).setCell 7 (.int .i64 0)).setCell 8 (.int .i64 0))
  obtain ⟨W, hW⟩ : ∃ W, W = (((w.setCell ⟨d, 6, none⟩ (.int .i64 n)).setCell ⟨d, 7, none⟩ (.int .i64 0)).setCell ⟨d, 8, none⟩ (.int .i64 0)) := ⟨_, rfl⟩
  rw [← hW] at h3 HK
  have HW := Lib.hid hW
  have H3 := Lib.hid h3
  have HI := Lib.hid (H W HK.out)
  clear h h1 h2 h3 hW H
  have hdu := Try.underlying29
  have fin : Hid (∀ (cs : Array Value) j k, cs = dkCells (D.asks n j k) va vb → LostP d (D.asks n j k) w (.returned (.tuple #[])) (W.setRow d cs)) := Lib.hid (fun cs j k hcs => by
    have hr := setRow_heap W d _ cs _ _ H3.out.1
    exact ⟨rfl, ⟨va, vb, H3.out.row (D' := D.asks n j k) rfl rfl (grown_row cs) hr hcs⟩, HK.out.trans (kt_of_grown (Nat.le_of_lt (lt_heap H3.out.1)) (grown_row cs))⟩)
  match l, HI with
  | [], _ =>
    have HF : Hid (LostP d (D.asks n 0 0) w (.returned (.tuple #[])) W) := Lib.hid ⟨rfl, ⟨va, vb, H3.out⟩, HK.out⟩
    clear H3 HK fin
    go_enter Try.func17, Try.ntmps17
    go_upto_region 2 with (fail)
    rw [← HW.out]
    go_wp2_with (refine wpList_copy_nothing rfl (.tmp 19) (.tmp 20) 29 29 rfl 3 hdu intSize _ _ _ _ _ _ rfl rfl (by rfl) ?_)
    go_end0
    exact HF.out
  | [a], HI =>
    obtain ⟨-, g, o, rfl, hg, hc⟩ := HI.out 0 a rfl
    have HF := Lib.hid (fin.out ((dkCells { D with cut := n, k0 := 0, k1 := 0 } va vb).toList.take 7 ++ ([Value.int .i64 a] ++ (dkCells { D with cut := n, k0 := 0, k1 := 0 } va vb).toList.drop 8)).toArray a 0 rfl)
    have HC := Lib.hid hc
    clear HK fin hc
    go_enter Try.func17, Try.ntmps17
    go_upto_region 2 with (fail)
    rw [← HW.out]
    go_wp2_with (refine wpList_copy_own rfl (.tmp 19) (.tmp 20) 29 29 rfl 3 hdu intSize d 7 _ _ _ _ _ rfl rfl _ _ H3.out.1 [.int .i64 a] (by rfl) (fun j v hv => by
      match j, hv with
      | 0, hv => cases hv; exact HC.out) (by simp [dkCells]) (by simp [Value.oneCell']) ?_)
    go_end0
    exact HF.out
  | a :: b :: l, HI =>
    obtain ⟨-, g, o, rfl, hg, hc⟩ := HI.out 0 a rfl
    obtain ⟨-, g', o', e, hg', hc'⟩ := HI.out 1 b rfl
    injection e with e
    injection e with e1 e2
    subst e1 e2
    have HF := Lib.hid (fin.out ((dkCells { D with cut := n, k0 := 0, k1 := 0 } va vb).toList.take 7 ++ ([Value.int .i64 a, Value.int .i64 b] ++ (dkCells { D with cut := n, k0 := 0, k1 := 0 } va vb).toList.drop 9)).toArray a b rfl)
    have HC := Lib.hid hc
    have HC' := Lib.hid hc'
    have hm : Nat.min (l.length + 1 + 1) 2 = 2 := Nat.min_eq_right (by omega)
    clear HK fin hc hc'
    go_enter Try.func17, Try.ntmps17
    go_upto_region 2 with (fail)
    rw [← HW.out]
    go_wp2_with (refine wpList_copy_own rfl (.tmp 19) (.tmp 20) 29 29 rfl 3 hdu intSize d 7 _ _ _ _ _ rfl rfl _ _ H3.out.1 [.int .i64 a, .int .i64 b] (by exact hm.symm) (fun j v hv => by
      match j, hv with
      | 0, hv => cases hv; exact HC.out
      | 1, hv => cases hv; exact HC'.out) (by simp [dkCells]) (by simp [Value.oneCell']) ?_)
    go_end0
    exact HF.out
end Go.Proofs.Ytdgljfoghonbaaa
