/- TopicLevels: the levels of any bytes are the document's, and any pieces are put together as it says. -/
import Derived.Test.YtcobklfimlblgaaDoorTpSplit
import Derived.Test.YtcobklfimlblgaaDoorTpRefLv
import Derived.Test.YtcobklfimlblgaaDoorTpJoin
import Derived.Test.YtcobklfimlblgaaDoorTpEqual
import Derived.BigQuiet
import Derived.Deep.QuietTactic
import Derived.Laws.DeepStrings4
namespace Go.Proofs.YtcobklfimlblgaaDoor
open Go.RowKit

set_option maxRecDepth 100000 in
set_option maxHeartbeats 4000000 in
theorem topicLevels_walk (w : World) (s : ByteArray) (A : Option Addr) (cap : Nat) (l : List ByteArray) (hl : l.length ≤ maxLen) (h : Texts w A l) (hc : l.length ≤ cap) (hsum : s.size + bytesOf l ≤ 1048576) :
    Calls Tryd.prog 3 #[.string s, .slice A l.length cap] w fun e w' => e = .returned (.bool true) ∧ Below w.heap.size w w' := by
  unfold maxLen at hl
  obtain ⟨m, hm, hm1, hm2⟩ : ∃ m : Nat, min (s.size : Int) 5000 = (m : Int) ∧ m ≤ 5000 ∧ m ≤ s.size := ⟨min s.size 5000, by omega, by omega, by omega⟩
  obtain ⟨n, hn, hn1, hn2⟩ : ∃ n : Nat, min (l.length : Int) 50 = (n : Int) ∧ n ≤ 50 ∧ n ≤ l.length := ⟨min l.length 50, by omega, by omega, by omega⟩
  have hm3 : ((m : Int)).toNat = m := by omega
  have hn3 : ((n : Int)).toNat = n := by omega
  have H := Lib.hid h
  have hs1 : ∀ W, (Instr.slice 9 (.string s) none (some (.int .i64 (m : Int))) none).run Tryd.prog W = .ok (.string (s.extract 0 m)) W := fun W => by
    rw [run_slice_string_to_if W 9 s .i64 _ Tryd.underlying9, if_pos (by omega)]; rfl
  have hT : (s.extract 0 m).size ≤ 5000 := by rw [ByteArray.size_extract]; omega
  generalize s.extract 0 m = T at *
  have hlv : TP.lv ⟨#[97, 47, 47, 98]⟩ = [⟨#[97]⟩, ⟨#[]⟩, ⟨#[98]⟩] := by rfl
  have C1 : Hid (∀ W, Calls Tryd.prog 5 #[.string ⟨#[97, 47, 47, 98]⟩] W (RetRow W 9 1 ([⟨#[97]⟩, ⟨#[]⟩, ⟨#[98]⟩] : List ByteArray).length (([⟨#[97]⟩, ⟨#[]⟩, ⟨#[98]⟩] : List ByteArray).map .string))) := Lib.hid (fun W => by
    have := levels_any ⟨#[97, 47, 47, 98]⟩ (by decide) W
    rw [hlv] at this
    exact this)
  have C2 := Lib.hid (fun W => levels_any T (by omega) W)
  have C3 := Lib.hid (fun W => rlevels_any T hT W)
  have hll : (TP.lv T).length ≤ 10000000 := by
    rw [TP.lv_length]
    have := List.count_le_length (a := (47 : UInt8)) (l := T.data.toList)
    rw [← Lib.size_eq] at this
    omega
  have hLn : (l.take n).length = n := by rw [List.length_take]; omega
  have hLb : bytesOf (l.take n) ≤ 1048576 := by have := bytes_le l n; omega
  have HX : Hid (Texts w A (l.take n)) := Lib.hid (H.out.take n)
  have C4 : Hid (∀ W, Below w.heap.size w W → Calls Tryd.prog 7 #[.slice A n cap] W fun e w' => e = .returned (.string (TP.jnS (l.take n))) ∧ Below W.heap.size W w') := Lib.hid (fun W hW => by
    have := join_any A cap (l.take n) W (HX.out.below hW) (by omega) (by omega) (by omega)
    rw [hLn] at this
    exact this)
  have C5 : Hid (∀ W, Below w.heap.size w W → Calls Tryd.prog 8 #[.slice A n cap] W fun e w' => e = .returned (.string (TP.jnS (l.take n))) ∧ W = w') := Lib.hid (fun W hW => by
    have := rjoin_any A cap (l.take n) W (HX.out.below hW) (by omega) (by omega)
    rw [hLn] at this
    exact this)
  have CE := Lib.hid equal_any
  generalize TP.jnS (l.take n) = J at *
  generalize TP.lv T = L at *
  clear h hlv hLn hLb HX H
  go_enter Tryd.func3, Tryd.ntmps3
  go_wp2
  go_quiet (fail)
  clear hm hn hs1
  go_wp2_with fail
  refine (C1.out _).mono ?_
  rintro e w1 ⟨v1, rfl, ho1, b1⟩
  obtain ⟨A1, c1, rfl⟩ := own_form ho1
  have B1 : Hid (Below w.heap.size w w1) := Lib.hid ((below_drewN _ _ _).trans b1)
  have T1 := Lib.hid (own_texts ho1)
  clear ho1 b1 C1
  have hsz1 := B1.out.size
  have TL : Texts (w1.alloc (.cells #[.string ⟨#[97]⟩, .string ⟨#[]⟩, .string ⟨#[98]⟩] 9)) (some ⟨w1.heap.size, 0, none⟩) [⟨#[97]⟩, ⟨#[]⟩, ⟨#[98]⟩] := fun i x hx => by
    have hh := heap_alloc_new w1 (.cells #[.string ⟨#[97]⟩, .string ⟨#[]⟩, .string ⟨#[98]⟩] 9)
    refine ⟨w1.heap.size, 0, rfl, lt_heap hh, ?_⟩
    rw [cell_heap hh, Nat.zero_add]
    match i, hx with
    | 0, hx => cases hx; rfl
    | 1, hx => cases hx; rfl
    | 2, hx => cases hx; rfl
    | i + 3, hx => simp at hx
  have BL : Below w1.heap.size w1 (w1.alloc (.cells #[.string ⟨#[97]⟩, .string ⟨#[]⟩, .string ⟨#[98]⟩] 9)) := (Below.refl _ _).alloc (Nat.le_refl _) _
  have CE1 := Lib.hid (CE.out A1 (some ⟨w1.heap.size, 0, none⟩) c1 3 _ _ (T1.out.below BL) TL (by simp))
  have B2 := Lib.hid (B1.out.trans (BL.mono hsz1))
  clear TL BL T1 B1
  go_wp2_with fail
  generalize w1.alloc (.cells #[.string ⟨#[97]⟩, .string ⟨#[]⟩, .string ⟨#[98]⟩] 9) = W2 at *
  refine CE1.out.mono ?_
  rintro e w3 ⟨rfl, b3⟩
  have B3 : Hid (Below w.heap.size w w3) := Lib.hid (B2.out.trans (b3.mono B2.out.size))
  clear b3 B2 CE1
  go_wp2_with fail
  refine (C2.out _).mono ?_
  rintro e w4 ⟨v4, rfl, ho4, b4⟩
  obtain ⟨A4, c4, rfl⟩ := own_form ho4
  have B4 : Hid (Below w.heap.size w w4) := Lib.hid (B3.out.trans (b4.mono B3.out.size))
  have T4 := Lib.hid (own_texts ho4)
  clear ho4 b4 B3 C2
  go_wp2_with fail
  refine (C3.out _).mono ?_
  rintro e w5 ⟨v5, rfl, ho5, b5⟩
  obtain ⟨A5, c5, rfl⟩ := own_form ho5
  have B5 : Hid (Below w.heap.size w w5) := Lib.hid (B4.out.trans (b5.mono B4.out.size))
  have T5 := Lib.hid (own_texts ho5)
  have T4' := Lib.hid (T4.out.below b5)
  clear ho5 b5 B4 C3 T4
  go_wp2_with fail
  refine (CE.out A4 A5 c4 c5 L w5 T4'.out T5.out hll).mono ?_
  rintro e w6 ⟨rfl, b6⟩
  have B6 : Hid (Below w.heap.size w w6) := Lib.hid (B5.out.trans (b6.mono B5.out.size))
  clear b6 B5 T4' T5 CE
  go_wp2_with fail
  refine (C4.out _ B6.out).mono ?_
  rintro e w7 ⟨rfl, b7⟩
  have B7 : Hid (Below w.heap.size w w7) := Lib.hid (B6.out.trans (b7.mono B6.out.size))
  clear b7 B6 C4
  go_wp2_with fail
  refine (C5.out _ B7.out).mono ?_
  rintro e w8 ⟨rfl, rfl⟩
  have hJ : (J.toList == J.toList) = true := beq_self_eq_true _
  clear C5
  go_wp2
  go_ret
  exact ⟨rfl, B7.out⟩
end Go.Proofs.YtcobklfimlblgaaDoor
