/- The law on Go's own conversion returns true. -/
import Derived.Test.YtdfedagjkfkbcaaDoorTxRunes
namespace Go.Proofs.YtdfedagjkfkbcaaDoor
open Go.RowKit

namespace TX
theorem fin_ab : cnt ⟨#[97, 98]⟩ 0 = 2 := by
  rw [cnt_yes (show chr ⟨#[97, 98]⟩ 0 ≠ 0 by decide), show 0 + chr ⟨#[97, 98]⟩ 0 = 1 by decide, cnt_yes (show chr ⟨#[97, 98]⟩ 1 ≠ 0 by decide), show 1 + chr ⟨#[97, 98]⟩ 1 = 2 by decide, cnt_no (by decide)]
end TX

/-- The conversion to runes of a text: a new row that holds its characters. -/
theorem conv_runes (s : ByteArray) (hf : TX.fin s 0 = s.size) (w : World) :
    ∃ (W : World) (cap : Nat), (convert 9 37 (.string s)).run Tryd.prog w = .ok (.slice (some ⟨w.heap.size, 0, none⟩) (TX.cnt s 0) cap) W ∧
      (∀ k, k < TX.cnt s 0 → W.cell? ⟨w.heap.size, k, none⟩ = some (.int .i32 ((TX.rl s 0).getD k 0))) ∧ Below w.heap.size w W ∧ w.heap.size < W.heap.size := by
  have e := TX.runesFrom_eq s s.size 0 #[] hf (by omega) (by omega)
  have hz : (Conv.runesFrom s s.size 0 #[]).size = TX.cnt s 0 := by
    rw [e, ← TX.rl_length s 0]
    simp
  have r : (convert 9 37 (.string s)).run Tryd.prog w = .ok (.slice (some ⟨w.heap.size, 0, none⟩) (TX.cnt s 0) (grownCap w (TX.cnt s 0) 0 21))
      (w.drew.alloc (.cells (Conv.runesFrom s s.size 0 #[] ++ Array.replicate (grownCap w (TX.cnt s 0) 0 21 - TX.cnt s 0) (.int .i32 0)) 21)) := by
    rw [← hz]
    simp [convert, run_underlying Tryd.underlying9, run_underlying Tryd.underlying37, run_underlying Tryd.underlying21, Conv.stringToRunes, Question.forced, newRow, grownCap]
  refine ⟨_, _, r, ?_, ?_, ?_⟩
  · intro k hk
    show (w.drew.alloc (.cells _ _ (0, 0))).cell? ⟨w.drew.heap.size, k, none⟩ = _
    rw [World.cell?_alloc_mark, e, Array.getElem?_append_left (by simp; rw [TX.rl_length]; exact hk)]
    have hk' : k < (TX.rl s 0).length := by rw [TX.rl_length]; exact hk
    simp [List.getD, List.getElem?_eq_getElem hk']
  · exact ((Below.refl _ _).drew).alloc (Nat.le_refl _) _
  · show w.heap.size < (w.drew.heap.push _).size
    rw [Array.size_push]
    exact Nat.lt_succ_self _

/-- And back. -/
theorem conv_back (s : ByteArray) (hf : TX.fin s 0 = s.size) (b cap : Nat) (w : World) (hc : ∀ k, k < TX.cnt s 0 → w.cell? ⟨b, k, none⟩ = some (.int .i32 ((TX.rl s 0).getD k 0))) :
    (convert 37 9 (.slice (some ⟨b, 0, none⟩) (TX.cnt s 0) cap)).run Tryd.prog w = .ok (.string s) w := by
  have h := run_convert_runes w 37 9 21 ⟨b, 0, none⟩ (TX.cnt s 0) cap (TX.rl s 0) (by rw [TX.rl_length]; exact Nat.le_refl _) Tryd.underlying37 Tryd.underlying21 Tryd.underlying9
    (fun j hj => by rw [Addr.add_lit, Nat.zero_add]; exact hc j (by rw [← TX.rl_length]; exact hj))
  rw [h, List.take_of_length_le (by rw [TX.rl_length]; exact Nat.le_refl _), TX.back s hf]

set_option maxRecDepth 100000 in
set_option maxHeartbeats 1000000 in
theorem textWhole_walk (s : ByteArray) (hs : s.size ≤ 140737488351232) (w : World) (hT : Tabs w) :
    Calls Tryd.prog 7 #[.string s] w fun e w' => e = .returned (.bool true) ∧ Below w.heap.size w w' := by
  have C1 := fault_any s (by omega) w hT
  have h2 := Lib.hid TX.fin_ab
  by_cases hf : TX.fin s 0 = s.size
  · rw [TX.bad_no hf] at C1
    have HF := Lib.hid hf
    have CA := fun w' hT' => runes_any s (by omega) w' hT'
    have KR := fun w' => conv_runes s hf w'
    have KB := Lib.hid (fun b cap w' hc => conv_back s hf b cap w' hc)
    have RP := Lib.hid (TX.rl_pos s 0)
    have RL := Lib.hid (TX.rl_length s 0)
    have hcn := TX.cnt_le s 0 (by omega)
    generalize TX.cnt s 0 = n at *
    generalize TX.rl s 0 = L at *
    generalize TX.flt s = f at *
    clear hf
    go_enter Tryd.func7, Tryd.ntmps7
    go_wp2_with fail
    refine C1.mono ?_
    rintro e w1 ⟨rfl, b1⟩
    clear C1
    obtain ⟨W, cap, hrun, hc, bW, hlt⟩ := KR w1
    have HC := Lib.hid hc
    clear KR hc
    have BW := b1.trans (bW.mono b1.size)
    have tW := hT.below BW
    clear b1 bW
    go_wp2
    clear hrun
    go_loop [20] (fun i => ∃ k : Nat, k ≤ n ∧ i = .int .i64 k) (fun i => n - (intOf i).toNat)
    case atStart => exact ⟨0, by omega, rfl⟩
    case round =>
      obtain ⟨k, hk, rfl⟩ := hrel
      by_cases hkn : k < n
      · have hcell := HC.out k hkn
        have hkl : k < L.length := by rw [RL.out]; exact hkn
        have hp := RP.out (L.getD k 0) (by rw [List.getD, List.getElem?_eq_getElem hkl]; exact List.getElem_mem hkl)
        obtain ⟨hp0, hp1⟩ := hp
        generalize L.getD k 0 = x at *
        have e1 : (x == 0) = false := by rw [beq_eq_false_iff_ne]; omega
        clear hkl
        go_wp2
        go_round
        case rel => exact ⟨k + 1, by omega, by go_num⟩
        case measure => simp [intOf]; omega
      · go_wp2_with fail
        refine (runes_any ⟨#[97, 98]⟩ (by decide) _ tW).mono ?_
        rintro e w2 ⟨rfl, b2⟩
        rw [h2.out]
        have hrun := KB.out w1.heap.size cap w2 (fun j hj => (b2.cell (p := ⟨w1.heap.size, j, none⟩) hlt).trans (HC.out j hj))
        have t2 := tW.below b2
        have B2 := BW.trans (b2.mono BW.size)
        clear b2
        go_wp2_with fail
        refine (CA _ t2).mono ?_
        rintro e w3 ⟨rfl, b3⟩
        go_wp2
        go_ret
        exact ⟨rfl, B2.trans (b3.mono B2.size)⟩
  · rw [TX.bad_yes hf] at C1
    clear hf
    generalize TX.flt s = f at *
    go_enter Tryd.func7, Tryd.ntmps7
    go_wp2_with fail
    refine C1.mono ?_
    rintro e w1 ⟨rfl, b1⟩
    have t1 := hT.below b1
    go_wp2_with fail
    refine (runes_any ⟨#[97, 98]⟩ (by decide) _ t1).mono ?_
    rintro e w2 ⟨rfl, b2⟩
    rw [h2.out]
    go_wp2
    go_ret
    exact ⟨rfl, b1.trans (b2.mono b1.size)⟩

end Go.Proofs.YtdfedagjkfkbcaaDoor
