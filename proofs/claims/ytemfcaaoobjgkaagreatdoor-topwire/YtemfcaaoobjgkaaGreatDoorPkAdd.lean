/- The writer's small methods: add, refuse, number, text, data, reason, id. -/
import Derived.Test.YtemfcaaoobjgkaaGreatDoorPkWr
import Derived.Test.YtemfcaaoobjgkaaGreatDoorPkPut
import Derived.Test.YtemfcaaoobjgkaaGreatDoorVarFixed
import Derived.Test.YtemfcaaoobjgkaaGreatDoorTxPut
import Derived.Test.YtemfcaaoobjgkaaGreatDoorVarData
import Derived.Test.YtemfcaaoobjgkaaGreatDoorPrPutAll
namespace Go.Proofs.YtemfcaaoobjgkaaGreatDoor
open Go.RowKit

/-- The writer stands at the bytes and the code o, in at most N times 8388996 bytes; beside a code the bytes are any. -/
def WO (b N : Nat) (o : ByteArray × Int) (w : World) : Prop := ∃ l, Wr b l o.2 w ∧ l.length ≤ N * 8388996 ∧ (o.2 = 0 → (⟨l.toArray⟩ : ByteArray) = o.1) ∧ 0 ≤ o.2 ∧ o.2 ≤ 255
/-- What a method of the writer answers: nothing, but the writer stands at o. -/
def WP (b N : Nat) (o : ByteArray × Int) (w : World) (e : Ending) (w' : World) : Prop := e = .returned (.tuple #[]) ∧ WO b N o w' ∧ Kp b w w'
theorem WO.lt {b N : Nat} {o : ByteArray × Int} {w : World} (h : WO b N o w) : b < w.heap.size := by obtain ⟨l, h1, _⟩ := h; exact h1.lt
theorem WO.below {b N : Nat} {o : ByteArray × Int} {w w' : World} (h : WO b N o w) (hb : Below w.heap.size w w') : WO b N o w' := by
  obtain ⟨l, h1, h2⟩ := h; exact ⟨l, h1.below hb, h2⟩
theorem WO.mono {b N M : Nat} {o : ByteArray × Int} {w : World} (h : WO b N o w) (hN : N ≤ M) : WO b M o w := by
  obtain ⟨l, h1, h2, h3⟩ := h; exact ⟨l, h1, Nat.le_trans h2 (Nat.mul_le_mul_right _ hN), h3⟩
theorem WP.mono {b N M : Nat} {o : ByteArray × Int} {w w' : World} {e : Ending} (h : WP b N o w e w') (hN : N ≤ M) : WP b M o w e w' := ⟨h.1, h.2.1.mono hN, h.2.2⟩
theorem set_code {b : Nat} {l : List UInt8} {c c' : Int} {w : World} (h : Wr b l c w) : Wr b l c' (w.setCell ⟨b, 2, none⟩ (.int .u8 c')) := by
  rcases h with ⟨v, h1, h2, h3⟩ | ⟨v, h1, h2, h3⟩
  · exact .inl ⟨v, set_block h1 rfl, own_set h2 h3, h3⟩
  · exact .inr ⟨v, set_block h1 rfl, own_set h2 h3, h3⟩
theorem code_cell {b : Nat} {l : List UInt8} {c : Int} {w : World} (h : Wr b l c w) : w.cell? ⟨b, 2, none⟩ = some (.int .u8 c) ∧ w.frozen? ⟨b, 2, none⟩ = false := by
  rcases h with ⟨v, h1, h2, h3⟩ | ⟨v, h1, h2, h3⟩
  · exact ⟨by rw [cell_heap h1]; rfl, frozen_heap h1⟩
  · exact ⟨by rw [cell_heap h1]; rfl, frozen_heap h1⟩
theorem ba_app (l : List UInt8) (s : ByteArray) : (⟨(l ++ s.data.toList).toArray⟩ : ByteArray) = ⟨l.toArray⟩ ++ s := by
  apply ByteArray.ext; simp [ByteArray.data_append]

set_option maxHeartbeats 1000000 in
theorem wadd_any (b N M : Nat) (o : ByteArray × Int) (s : ByteArray) (c : Int) (w : World) (h : WO b N o w) (hs : s.size ≤ M * 8388996) (hM : s.size ≤ 140737488355328) (hN : N ≤ 1000) (_hM2 : M ≤ 16777000) (hc : 0 ≤ c ∧ c ≤ 255) :
    Calls Tryz.prog 79 #[.pointer (some ⟨b, 0, none⟩), .string s, .int .u8 c] w (WP b (N + M) (PK.ad o s c) w) := by
  obtain ⟨l, h1, h2, h3, h4⟩ := h
  obtain ⟨q, fz⟩ := code_cell h1
  have hsl : s.data.toList.length = s.size := Array.length_toList
  by_cases ho : o.2 = 0
  · have e0 : (o.2 == 0) = true := by simp [ho]
    have C := Lib.hid (wwrite_any b l c s _ (set_code (c' := c) h1) (by omega) (by omega))
    have HO : Hid (0 ≤ (PK.ad o s c).2 ∧ (PK.ad o s c).2 ≤ 255 ∧ (PK.ad o s c).2 = c ∧ ((PK.ad o s c).2 = 0 → (⟨(l ++ s.data.toList).toArray⟩ : ByteArray) = (PK.ad o s c).1)) := Lib.hid (by
      by_cases hc0 : c = 0
      · subst hc0
        rw [PK.ad_ok ho]
        exact ⟨Int.le_refl 0, (by decide : (0 : Int) ≤ 255), rfl, fun _ => by rw [ba_app, h3 ho]⟩
      · rw [PK.ad_code ho _ hc0]
        exact ⟨hc.1, hc.2, rfl, fun h => absurd h hc0⟩)
    have HK := Lib.hid ((Kp.refl b w).setCell 2 (.int .u8 c))
    have HL : Hid ((l ++ s.data.toList).length ≤ (N + M) * 8388996) := Lib.hid (by rw [List.length_append, Nat.add_mul]; omega)
    generalize PK.ad o s c = o' at *
    generalize o.2 = oc at *
    clear h1 h3 ho h4
    go_enter Tryz.func79, Tryz.ntmps79
    go_wp2_with fail
    refine C.out.mono ?_
    rintro e w1 ⟨rfl, hw, hk⟩
    have H1 := Lib.hid hw
    have H2 := Lib.hid hk
    clear hw hk C
    go_wp2
    go_end0
    exact ⟨rfl, ⟨_, by rw [HO.out.2.2.1]; exact H1.out, HL.out, HO.out.2.2.2, HO.out.1, HO.out.2.1⟩, HK.out.trans H2.out⟩
  · have e0 : (o.2 == 0) = false := by simp [ho]
    have C := Lib.hid (wwrite_any b l o.2 s w h1 (by omega) (by omega))
    have HE := Lib.hid (PK.ad_bad ho s c)
    have Ho := Lib.hid ho
    have HL : Hid ((l ++ s.data.toList).length ≤ (N + M) * 8388996) := Lib.hid (by rw [List.length_append, Nat.add_mul]; omega)
    have H4 := Lib.hid h4
    generalize PK.ad o s c = o' at *
    obtain ⟨os, oc⟩ := o
    simp only at C Ho H4 e0 q
    clear h1 h3 ho h4
    go_enter Tryz.func79, Tryz.ntmps79
    go_wp2_with fail
    refine C.out.mono ?_
    rintro e w1 ⟨rfl, hw, hk⟩
    have H1 := Lib.hid hw
    have H2 := Lib.hid hk
    clear hw hk C
    go_wp2
    go_end0
    exact ⟨rfl, by rw [HE.out]; exact ⟨_, H1.out, HL.out, fun h => absurd h Ho.out, H4.out⟩, H2.out⟩
theorem wrefuse_any (b N : Nat) (o : ByteArray × Int) (c : Int) (w : World) (h : WO b N o w) (hN : N ≤ 1000) (hc : 0 ≤ c ∧ c ≤ 255) :
    Calls Tryz.prog 45 #[.pointer (some ⟨b, 0, none⟩), .int .u8 c] w (WP b N (PK.rf o c) w) := by
  have C := Lib.hid (wadd_any b N 0 o ⟨#[]⟩ c w h (Nat.zero_le _) (Nat.zero_le _) hN (by decide) hc)
  unfold PK.rf
  generalize PK.ad o ⟨#[]⟩ c = o' at *
  clear h
  go_enter Tryz.func45, Tryz.ntmps45
  go_wp2_with fail
  refine C.out.mono ?_
  rintro e w1 ⟨rfl, hw, hk⟩
  have H1 := Lib.hid hw
  have H2 := Lib.hid hk
  clear hw hk C
  go_wp2
  go_end0
  exact ⟨rfl, H1.out, H2.out⟩

theorem fix_size (w n : Int) : (strOfNums (VP.fixL w n)).size ≤ 4 := by rw [strOfNums_size]; exact PR.fixL_len w n
theorem wnumber_any (b N : Nat) (o : ByteArray × Int) (wd n : Int) (w : World) (h : WO b N o w) (hN : N ≤ 1000) (hn : -9223372036854775808 ≤ n ∧ n ≤ 9223372036854775807) :
    Calls Tryz.prog 48 #[.pointer (some ⟨b, 0, none⟩), .int .i64 wd, .int .i64 n] w (WP b (N + 1) (PK.nm o wd n) w) := by
  have C1 := Lib.hid (fixed_any wd n hn.1 hn.2 w)
  have hc := VP.fixC_le wd n
  have C2 : Hid (∀ W, Below w.heap.size w W → Calls Tryz.prog 79 #[.pointer (some ⟨b, 0, none⟩), .string (strOfNums (VP.fixL wd n)), .int .u8 (VP.fixC wd n)] W (WP b (N + 1) (PK.nm o wd n) W)) := fun W hW => wadd_any b N 1 o _ _ W (h.below hW) (Nat.le_trans (fix_size wd n) (by decide)) (Nat.le_trans (fix_size wd n) (by decide)) hN (by decide) (by omega)
  have hb := h.lt
  generalize PK.nm o wd n = o' at *
  generalize strOfNums (VP.fixL wd n) = S at *
  generalize VP.fixC wd n = c at *
  clear h
  go_enter Tryz.func48, Tryz.ntmps48
  go_wp2_with fail
  refine C1.out.mono ?_
  rintro e w1 ⟨rfl, b1⟩
  have C3 := Lib.hid (C2.out w1 b1)
  have K1 : Hid (Kp b w w1) := Kp.of_below (Nat.le_of_lt hb) b1
  clear C1 C2 b1
  go_wp2_with fail
  refine C3.out.mono ?_
  rintro e w2 ⟨rfl, hw, hk⟩
  have H1 := Lib.hid hw
  have H2 := Lib.hid hk
  clear hw hk C3
  go_wp2
  go_end0
  exact ⟨rfl, H1.out, K1.out.trans H2.out⟩
theorem wtext_any (b N : Nat) (o : ByteArray × Int) (s : ByteArray) (w : World) (h : WO b N o w) (hN : N ≤ 1000) (hs : s.size ≤ 140737488351232) (hT : Tabs w) :
    Calls Tryz.prog 56 #[.pointer (some ⟨b, 0, none⟩), .string s] w (WP b (N + 1) (PK.tx o s) w) := by
  have C1 := Lib.hid (tput_any s hs w hT)
  have hc := TX.putC_le s
  have C2 : Hid (∀ W, Below w.heap.size w W → Calls Tryz.prog 79 #[.pointer (some ⟨b, 0, none⟩), .string (TX.putS s), .int .u8 (TX.putC s)] W (WP b (N + 1) (PK.tx o s) W)) := fun W hW => wadd_any b N 1 o _ _ W (h.below hW) (Nat.le_trans (PR.putS_size s) (by decide)) (Nat.le_trans (PR.putS_size s) (by decide)) hN (by decide) (by omega)
  have hb := h.lt
  generalize PK.tx o s = o' at *
  generalize TX.putS s = S at *
  generalize TX.putC s = c at *
  clear h
  go_enter Tryz.func56, Tryz.ntmps56
  go_wp2_with fail
  refine C1.out.mono ?_
  rintro e w1 ⟨rfl, b1⟩
  have C3 := Lib.hid (C2.out w1 b1)
  have K1 : Hid (Kp b w w1) := Kp.of_below (Nat.le_of_lt hb) b1
  clear C1 C2 b1
  go_wp2_with fail
  refine C3.out.mono ?_
  rintro e w2 ⟨rfl, hw, hk⟩
  have H1 := Lib.hid hw
  have H2 := Lib.hid hk
  clear hw hk C3
  go_wp2
  go_end0
  exact ⟨rfl, H1.out, K1.out.trans H2.out⟩
theorem wdata_any (b N : Nat) (o : ByteArray × Int) (s : ByteArray) (w : World) (h : WO b N o w) (hN : N ≤ 1000) (hs : s.size ≤ 140737488351232) :
    Calls Tryz.prog 81 #[.pointer (some ⟨b, 0, none⟩), .string s] w (WP b (N + 1) (PK.dt o s) w) := by
  have C1 : Hid (Calls Tryz.prog 105 #[.string s] w fun e w' => e = .returned (.tuple #[.string (TX.dataS s), .int .u8 (TX.dataC s)]) ∧ Below w.heap.size w w') := Lib.hid (data_any s (by unfold maxLen; omega) w)
  have hc := PR.dataC_le s
  have C2 : Hid (∀ W, Below w.heap.size w W → Calls Tryz.prog 79 #[.pointer (some ⟨b, 0, none⟩), .string (TX.dataS s), .int .u8 (TX.dataC s)] W (WP b (N + 1) (PK.dt o s) W)) := fun W hW => wadd_any b N 1 o _ _ W (h.below hW) (Nat.le_trans (PR.dataS_size s) (by decide)) (Nat.le_trans (PR.dataS_size s) (by decide)) hN (by decide) (by omega)
  have hb := h.lt
  generalize PK.dt o s = o' at *
  generalize TX.dataS s = S at *
  generalize TX.dataC s = c at *
  clear h
  go_enter Tryz.func81, Tryz.ntmps81
  go_wp2_with fail
  refine C1.out.mono ?_
  rintro e w1 ⟨rfl, b1⟩
  have C3 := Lib.hid (C2.out w1 b1)
  have K1 : Hid (Kp b w w1) := Kp.of_below (Nat.le_of_lt hb) b1
  clear C1 C2 b1
  go_wp2_with fail
  refine C3.out.mono ?_
  rintro e w2 ⟨rfl, hw, hk⟩
  have H1 := Lib.hid hw
  have H2 := Lib.hid hk
  clear hw hk C3
  go_wp2
  go_end0
  exact ⟨rfl, H1.out, K1.out.trans H2.out⟩
theorem wreason_any (b N : Nat) (o : ByteArray × Int) (c : Int) (w : World) (h : WO b N o w) (hN : N ≤ 1000) (hc : 0 ≤ c ∧ c ≤ 255) :
    Calls Tryz.prog 49 #[.pointer (some ⟨b, 0, none⟩), .int .u8 c] w (WP b (N + 1) (PK.nm o 1 c) w) := by
  have C := Lib.hid (wnumber_any b N o 1 c w h hN (by omega))
  generalize PK.nm o 1 c = o' at *
  have i1 := hc.1
  have i2 := hc.2
  clear h
  go_enter Tryz.func49, Tryz.ntmps49
  go_wp2_with fail
  refine C.out.mono ?_
  rintro e w1 ⟨rfl, hw, hk⟩
  have H1 := Lib.hid hw
  have H2 := Lib.hid hk
  clear hw hk C
  go_wp2
  go_end0
  exact ⟨rfl, H1.out, H2.out⟩
theorem wid_any (b N : Nat) (o : ByteArray × Int) (n : Int) (w : World) (h : WO b N o w) (hN : N ≤ 1000) (hn : -9223372036854775808 ≤ n ∧ n ≤ 9223372036854775807) :
    Calls Tryz.prog 58 #[.pointer (some ⟨b, 0, none⟩), .int .i64 n] w (WP b (N + 1) (PK.idd o n) w) := by
  unfold PK.idd
  have C2 : Hid (∀ o W, WO b N o W → Calls Tryz.prog 48 #[.pointer (some ⟨b, 0, none⟩), .int .i64 2, .int .i64 n] W (WP b (N + 1) (PK.nm o 2 n) W)) := fun o W hW => wnumber_any b N o 2 n W hW hN hn
  by_cases hr : n < 1 ∨ 65535 < n
  · rw [if_pos hr]
    have C := Lib.hid (wrefuse_any b N o 130 w h hN (by decide))
    generalize PK.rf o 130 = o1 at *
    clear h
    rcases hr with hr | hr
    · go_enter Tryz.func58, Tryz.ntmps58
      go_wp2_with fail
      refine C.out.mono ?_
      rintro e w1 ⟨rfl, hw, hk⟩
      have C3 := Lib.hid (C2.out _ _ hw)
      have K1 := Lib.hid hk
      clear hw hk C C2
      go_wp2_with fail
      refine C3.out.mono ?_
      rintro e w2 ⟨rfl, hw, hk⟩
      have H1 := Lib.hid hw
      have H2 := Lib.hid hk
      clear hw hk C3
      go_wp2
      go_end0
      exact ⟨rfl, H1.out, K1.out.trans H2.out⟩
    · have hr1 : ¬ n < 1 := by omega
      go_enter Tryz.func58, Tryz.ntmps58
      go_wp2_with fail
      refine C.out.mono ?_
      rintro e w1 ⟨rfl, hw, hk⟩
      have C3 := Lib.hid (C2.out _ _ hw)
      have K1 := Lib.hid hk
      clear hw hk C C2
      go_wp2_with fail
      refine C3.out.mono ?_
      rintro e w2 ⟨rfl, hw, hk⟩
      have H1 := Lib.hid hw
      have H2 := Lib.hid hk
      clear hw hk C3
      go_wp2
      go_end0
      exact ⟨rfl, H1.out, K1.out.trans H2.out⟩
  · rw [if_neg hr]
    have C3 := Lib.hid (C2.out _ _ h)
    have hr1 : ¬ n < 1 := by omega
    have hr2 : ¬ 65535 < n := by omega
    clear h C2 hr
    go_enter Tryz.func58, Tryz.ntmps58
    go_wp2_with fail
    refine C3.out.mono ?_
    rintro e w2 ⟨rfl, hw, hk⟩
    have H1 := Lib.hid hw
    have H2 := Lib.hid hk
    clear hw hk C3
    go_wp2
    go_end0
    exact ⟨rfl, H1.out, H2.out⟩

/-! Small tests. -/
theorem isqos_any (n : Int) (w : World) : Calls Tryz.prog 78 #[.int .i64 n] w fun e w' => e = .returned (.bool (PK.isQ n)) ∧ w = w' := by
  have E : Hid (PK.isQ n = (decide (0 ≤ n) && decide (n ≤ 2))) := rfl
  generalize PK.isQ n = q at *
  by_cases h0 : 0 ≤ n
  · go_enter Tryz.func78, Tryz.ntmps78
    go_wp2
    go_ret
    exact ⟨by rw [E.out]; simp [h0], rfl⟩
  · go_enter Tryz.func78, Tryz.ntmps78
    go_wp2
    go_ret
    exact ⟨by rw [E.out]; simp; omega, rfl⟩
theorem ishand_any (n : Int) (w : World) : Calls Tryz.prog 84 #[.int .i64 n] w fun e w' => e = .returned (.bool (PK.isQ n)) ∧ w = w' := by
  have E : Hid (PK.isQ n = (decide (0 ≤ n) && decide (n ≤ 2))) := rfl
  generalize PK.isQ n = q at *
  by_cases h0 : 0 ≤ n
  · go_enter Tryz.func84, Tryz.ntmps84
    go_wp2
    go_ret
    exact ⟨by rw [E.out]; simp [h0], rfl⟩
  · go_enter Tryz.func84, Tryz.ntmps84
    go_wp2
    go_ret
    exact ⟨by rw [E.out]; simp; omega, rfl⟩
theorem flag_any (on : Bool) (n : Int) (w : World) : Calls Tryz.prog 46 #[.bool on, .int .i64 n] w fun e w' => e = .returned (.int .i64 (PK.fl on n)) ∧ w = w' := by
  unfold PK.fl
  cases on
  · go_enter Tryz.func46, Tryz.ntmps46
    go_wp2
    go_ret
    exact ⟨rfl, rfl⟩
  · go_enter Tryz.func46, Tryz.ntmps46
    go_wp2
    go_ret
    exact ⟨rfl, rfl⟩
end Go.Proofs.YtemfcaaoobjgkaaGreatDoor
