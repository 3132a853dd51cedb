/- No number's bytes begin another one's: the law returns true. -/
import Derived.Test.YtlhpglkbipbckaaVarPut
import Derived.Test.YtlhpglkbipbckaaVarPureOrd
import Derived.Test.YtlhpglkbipbckaaVarBackWalk
namespace Go.Proofs.Ytlhpglkbipbckaa
open Go.RowKit
set_option linter.unusedVariables false

/-- What is known of the bytes of two numbers, the first the lesser. -/
structure Two (A B : Int) (S T : ByteArray) : Prop where
  sA : strOfNums (VP.putL A) = S
  sB : strOfNums (VP.putL B) = T
  cA : VP.putC A = 0
  cB : VP.putC B = 0
  one : 1 ≤ S.size
  le : S.size ≤ T.size
  four : T.size ≤ 4
  sz : VP.sz A ≤ VP.sz B
  no : A < B → ¬ T.extract 0 S.size = S

theorem two_of {A B : Int} (ha0 : 0 ≤ A) (hle : A ≤ B) (hb1 : B ≤ 268435455) : ∃ S T, Two A B S T := by
  refine ⟨_, _, rfl, rfl, VP.putC_in ha0 (by omega), VP.putC_in (by omega) hb1, ?_, ?_, ?_, VP.sz_mono ha0 hle hb1, ?_⟩
  · rw [strOfNums_size]; have := VP.putL_len ha0 (by omega : A ≤ 268435455); have := VP.sz_in ha0 (by omega : A ≤ 268435455); omega
  · rw [strOfNums_size, strOfNums_size]; exact VP.len_mono ha0 hle hb1
  · rw [strOfNums_size]; have := VP.putL_len (by omega : 0 ≤ B) hb1; have := VP.sz_in (by omega : 0 ≤ B) hb1; omega
  · intro h; rw [strOfNums_size]; exact VP.not_begin ha0 h hb1

theorem toList_ne {a b : ByteArray} (h : ¬ a = b) : (a.toList == b.toList) = false := by
  rw [beq_eq_false_iff_ne]
  intro e
  apply h
  apply ByteArray.ext
  apply Array.toList_inj.1
  rw [← ByteArray.toList_eq, ← ByteArray.toList_eq, e]

set_option maxHeartbeats 2000000 in
theorem ord_pp (a b : Int) (A : Int) (ha0 : 0 ≤ A) (ha1 : A ≤ 268435455) (B : Int) (hb0 : 0 ≤ B) (hb1 : B ≤ 268435455) (ho : A ≤ B) (ha : 0 < a) (hA : a % 268435456 = A) (hb : 0 < b) (hB : b % 268435456 = B) (w : World) :
    Calls Try.prog 10 #[.int .i64 a, .int .i64 b] w fun e w' => e = .returned (.bool true) ∧ Below w.heap.size w w' := by
  obtain ⟨S, T, h⟩ := two_of (A := A) (B := B) (by omega) (by omega) (by omega)
  have H := Lib.hid h
  have h1 := h.one
  have h2 := h.le
  have h3 := h.four
  have h4 := h.sz
  have hz : ((S.size : Int) == 0) = false := by rw [beq_eq_false_iff_ne]; omega
  have hd : decide (T.size < S.size) = false := by simp; omega
  have hsl := slice_to T S.size h2
  by_cases heq : A < B
  · have hne : (A == B) = false := by rw [beq_eq_false_iff_ne]; omega
    have hnb := toList_ne (h.no heq)
    clear h
    go_enter Try.func10, Try.ntmps10
    go_wp2_with fail
    try rw [hA]
    try rw [hB]
    clear hA hB
    refine (put_any A _).mono ?_
    rintro e w1 ⟨rfl, b1⟩
    rw [H.out.sA, H.out.cA]
    go_wp2_with fail
    refine (put_any B _).mono ?_
    rintro e w2 ⟨rfl, b2⟩
    rw [H.out.sB, H.out.cB]
    go_wp2_with fail
    refine (size_any A _).mono ?_
    rintro e w' ⟨rfl, rfl⟩
    go_wp2_with fail
    refine (size_any B _).mono ?_
    rintro e w' ⟨rfl, rfl⟩
    go_wp2
    go_ret
    exact ⟨rfl, b1.trans (b2.mono b1.size)⟩
  · clear h
    obtain rfl : A = B := by omega
    go_enter Try.func10, Try.ntmps10
    go_wp2_with fail
    try rw [hA]
    try rw [hB]
    clear hA hB
    refine (put_any A _).mono ?_
    rintro e w1 ⟨rfl, b1⟩
    rw [H.out.sA, H.out.cA]
    go_wp2_with fail
    refine (put_any A _).mono ?_
    rintro e w2 ⟨rfl, b2⟩
    rw [H.out.sA, H.out.cA]
    go_wp2_with fail
    refine (size_any A _).mono ?_
    rintro e w' ⟨rfl, rfl⟩
    go_wp2_with fail
    refine (size_any A _).mono ?_
    rintro e w' ⟨rfl, rfl⟩
    go_wp2
    go_ret
    exact ⟨rfl, b1.trans (b2.mono b1.size)⟩

set_option maxHeartbeats 2000000 in
theorem ord_pps (a b : Int) (A : Int) (ha0 : 0 ≤ A) (ha1 : A ≤ 268435455) (B : Int) (hb0 : 0 ≤ B) (hb1 : B ≤ 268435455) (ho : B < A) (ha : 0 < a) (hA : a % 268435456 = A) (hb : 0 < b) (hB : b % 268435456 = B) (w : World) :
    Calls Try.prog 10 #[.int .i64 a, .int .i64 b] w fun e w' => e = .returned (.bool true) ∧ Below w.heap.size w w' := by
  obtain ⟨S, T, h⟩ := two_of (A := B) (B := A) (by omega) (by omega) (by omega)
  have H := Lib.hid h
  have h1 := h.one
  have h2 := h.le
  have h3 := h.four
  have h4 := h.sz
  have hz : ((S.size : Int) == 0) = false := by rw [beq_eq_false_iff_ne]; omega
  have hd : decide (T.size < S.size) = false := by simp; omega
  have hsl := slice_to T S.size h2
  by_cases heq : B < A
  · have hne : (B == A) = false := by rw [beq_eq_false_iff_ne]; omega
    have hnb := toList_ne (h.no heq)
    clear h
    go_enter Try.func10, Try.ntmps10
    go_wp2_with fail
    try rw [hA]
    try rw [hB]
    clear hA hB
    refine (put_any B _).mono ?_
    rintro e w1 ⟨rfl, b1⟩
    rw [H.out.sA, H.out.cA]
    go_wp2_with fail
    refine (put_any A _).mono ?_
    rintro e w2 ⟨rfl, b2⟩
    rw [H.out.sB, H.out.cB]
    go_wp2_with fail
    refine (size_any B _).mono ?_
    rintro e w' ⟨rfl, rfl⟩
    go_wp2_with fail
    refine (size_any A _).mono ?_
    rintro e w' ⟨rfl, rfl⟩
    go_wp2
    go_ret
    exact ⟨rfl, b1.trans (b2.mono b1.size)⟩
  · exact absurd ho heq

set_option maxHeartbeats 2000000 in
theorem ord_pz (a b : Int) (A : Int) (ha0 : 0 ≤ A) (ha1 : A ≤ 268435455) (ho : A ≤ 0) (ha : 0 < a) (hA : a % 268435456 = A) (hb : ¬ 0 < b) (w : World) :
    Calls Try.prog 10 #[.int .i64 a, .int .i64 b] w fun e w' => e = .returned (.bool true) ∧ Below w.heap.size w w' := by
  obtain ⟨S, T, h⟩ := two_of (A := A) (B := 0) (by omega) (by omega) (by omega)
  have H := Lib.hid h
  have h1 := h.one
  have h2 := h.le
  have h3 := h.four
  have h4 := h.sz
  have hz : ((S.size : Int) == 0) = false := by rw [beq_eq_false_iff_ne]; omega
  have hd : decide (T.size < S.size) = false := by simp; omega
  have hsl := slice_to T S.size h2
  by_cases heq : A < 0
  · exact absurd heq (by omega)
  · clear h
    obtain rfl : A = 0 := by omega
    go_enter Try.func10, Try.ntmps10
    go_wp2_with fail
    try rw [hA]
    clear hA
    refine (put_any 0 _).mono ?_
    rintro e w1 ⟨rfl, b1⟩
    rw [H.out.sA, H.out.cA]
    go_wp2_with fail
    refine (put_any 0 _).mono ?_
    rintro e w2 ⟨rfl, b2⟩
    rw [H.out.sA, H.out.cA]
    go_wp2_with fail
    refine (size_any 0 _).mono ?_
    rintro e w' ⟨rfl, rfl⟩
    go_wp2_with fail
    refine (size_any 0 _).mono ?_
    rintro e w' ⟨rfl, rfl⟩
    go_wp2
    go_ret
    exact ⟨rfl, b1.trans (b2.mono b1.size)⟩

set_option maxHeartbeats 2000000 in
theorem ord_pzs (a b : Int) (A : Int) (ha0 : 0 ≤ A) (ha1 : A ≤ 268435455) (ho : 0 < A) (ha : 0 < a) (hA : a % 268435456 = A) (hb : ¬ 0 < b) (w : World) :
    Calls Try.prog 10 #[.int .i64 a, .int .i64 b] w fun e w' => e = .returned (.bool true) ∧ Below w.heap.size w w' := by
  obtain ⟨S, T, h⟩ := two_of (A := 0) (B := A) (by omega) (by omega) (by omega)
  have H := Lib.hid h
  have h1 := h.one
  have h2 := h.le
  have h3 := h.four
  have h4 := h.sz
  have hz : ((S.size : Int) == 0) = false := by rw [beq_eq_false_iff_ne]; omega
  have hd : decide (T.size < S.size) = false := by simp; omega
  have hsl := slice_to T S.size h2
  by_cases heq : (0 : Int) < A
  · have hne : (0 == A) = false := by rw [beq_eq_false_iff_ne]; omega
    have hnb := toList_ne (h.no heq)
    clear h
    go_enter Try.func10, Try.ntmps10
    go_wp2_with fail
    try rw [hA]
    clear hA
    refine (put_any 0 _).mono ?_
    rintro e w1 ⟨rfl, b1⟩
    rw [H.out.sA, H.out.cA]
    go_wp2_with fail
    refine (put_any A _).mono ?_
    rintro e w2 ⟨rfl, b2⟩
    rw [H.out.sB, H.out.cB]
    go_wp2_with fail
    refine (size_any 0 _).mono ?_
    rintro e w' ⟨rfl, rfl⟩
    go_wp2_with fail
    refine (size_any A _).mono ?_
    rintro e w' ⟨rfl, rfl⟩
    go_wp2
    go_ret
    exact ⟨rfl, b1.trans (b2.mono b1.size)⟩
  · exact absurd ho heq

set_option maxHeartbeats 2000000 in
theorem ord_zp (a b : Int) (B : Int) (hb0 : 0 ≤ B) (hb1 : B ≤ 268435455) (ho : 0 ≤ B) (ha : ¬ 0 < a) (hb : 0 < b) (hB : b % 268435456 = B) (w : World) :
    Calls Try.prog 10 #[.int .i64 a, .int .i64 b] w fun e w' => e = .returned (.bool true) ∧ Below w.heap.size w w' := by
  obtain ⟨S, T, h⟩ := two_of (A := 0) (B := B) (by omega) (by omega) (by omega)
  have H := Lib.hid h
  have h1 := h.one
  have h2 := h.le
  have h3 := h.four
  have h4 := h.sz
  have hz : ((S.size : Int) == 0) = false := by rw [beq_eq_false_iff_ne]; omega
  have hd : decide (T.size < S.size) = false := by simp; omega
  have hsl := slice_to T S.size h2
  by_cases heq : (0 : Int) < B
  · have hne : (0 == B) = false := by rw [beq_eq_false_iff_ne]; omega
    have hnb := toList_ne (h.no heq)
    clear h
    go_enter Try.func10, Try.ntmps10
    go_wp2_with fail
    try rw [hB]
    clear hB
    refine (put_any 0 _).mono ?_
    rintro e w1 ⟨rfl, b1⟩
    rw [H.out.sA, H.out.cA]
    go_wp2_with fail
    refine (put_any B _).mono ?_
    rintro e w2 ⟨rfl, b2⟩
    rw [H.out.sB, H.out.cB]
    go_wp2_with fail
    refine (size_any 0 _).mono ?_
    rintro e w' ⟨rfl, rfl⟩
    go_wp2_with fail
    refine (size_any B _).mono ?_
    rintro e w' ⟨rfl, rfl⟩
    go_wp2
    go_ret
    exact ⟨rfl, b1.trans (b2.mono b1.size)⟩
  · clear h
    obtain rfl : B = 0 := by omega
    go_enter Try.func10, Try.ntmps10
    go_wp2_with fail
    try rw [hB]
    clear hB
    refine (put_any 0 _).mono ?_
    rintro e w1 ⟨rfl, b1⟩
    rw [H.out.sA, H.out.cA]
    go_wp2_with fail
    refine (put_any 0 _).mono ?_
    rintro e w2 ⟨rfl, b2⟩
    rw [H.out.sA, H.out.cA]
    go_wp2_with fail
    refine (size_any 0 _).mono ?_
    rintro e w' ⟨rfl, rfl⟩
    go_wp2_with fail
    refine (size_any 0 _).mono ?_
    rintro e w' ⟨rfl, rfl⟩
    go_wp2
    go_ret
    exact ⟨rfl, b1.trans (b2.mono b1.size)⟩

set_option maxHeartbeats 2000000 in
theorem ord_zz (a b : Int) (ha : ¬ 0 < a) (hb : ¬ 0 < b) (w : World) :
    Calls Try.prog 10 #[.int .i64 a, .int .i64 b] w fun e w' => e = .returned (.bool true) ∧ Below w.heap.size w w' := by
  obtain ⟨S, T, h⟩ := two_of (A := 0) (B := 0) (by omega) (by omega) (by omega)
  have H := Lib.hid h
  have h1 := h.one
  have h2 := h.le
  have h3 := h.four
  have h4 := h.sz
  have hz : ((S.size : Int) == 0) = false := by rw [beq_eq_false_iff_ne]; omega
  have hd : decide (T.size < S.size) = false := by simp; omega
  have hsl := slice_to T S.size h2
  by_cases heq : (0 : Int) < 0
  · exact absurd heq (by omega)
  · clear h
    go_enter Try.func10, Try.ntmps10
    go_wp2_with fail
    refine (put_any 0 _).mono ?_
    rintro e w1 ⟨rfl, b1⟩
    rw [H.out.sA, H.out.cA]
    go_wp2_with fail
    refine (put_any 0 _).mono ?_
    rintro e w2 ⟨rfl, b2⟩
    rw [H.out.sA, H.out.cA]
    go_wp2_with fail
    refine (size_any 0 _).mono ?_
    rintro e w' ⟨rfl, rfl⟩
    go_wp2_with fail
    refine (size_any 0 _).mono ?_
    rintro e w' ⟨rfl, rfl⟩
    go_wp2
    go_ret
    exact ⟨rfl, b1.trans (b2.mono b1.size)⟩

theorem varintOrders_walk (a b : Int) (_hw : (Lit.int .i64 a).wf = true) (_hw' : (Lit.int .i64 b).wf = true) (w : World) :
    Calls Try.prog 10 #[.int .i64 a, .int .i64 b] w fun e w' => e = .returned (.bool true) ∧ Below w.heap.size w w' := by
  by_cases ha : 0 < a
  · by_cases hb : 0 < b
    · by_cases ho : a % 268435456 ≤ b % 268435456
      · exact ord_pp a b _ (by omega) (by omega) _ (by omega) (by omega) ho ha rfl hb rfl w
      · exact ord_pps a b _ (by omega) (by omega) _ (by omega) (by omega) (by omega) ha rfl hb rfl w
    · by_cases ho : a % 268435456 ≤ 0
      · exact ord_pz a b _ (by omega) (by omega) ho ha rfl hb w
      · exact ord_pzs a b _ (by omega) (by omega) (by omega) ha rfl hb w
  · by_cases hb : 0 < b
    · exact ord_zp a b _ (by omega) (by omega) (by omega) ha hb rfl w
    · exact ord_zz a b ha hb w

end Go.Proofs.Ytlhpglkbipbckaa
