/- Where bytes are no text: the program's function and the document's answer the same.; Plain numbers and lists behind fixed numbers and data. No program is named here.; The function that tells a fixed number's bytes answers the plain bytes and code.; Whether a place lies within a string.; The function that reads fixed numbers answers the plain number, place and code.; The document's function that reads fixed numbers answers the plain number, place and code.; Data: the program's and the document's functions answer the same; the law on them returns true.; Put and Get of texts: the program's functions and the document's answer the same.; Plain numbers and lists behind the layer of numbers and data: how many bytes a number takes, its bytes. No program is named here.; Properties' bytes, told plainly. No function of the program is named here.; Which properties a packet may have: told plainly. No function of the program is named here.; Packets' bytes, told plainly. No function of the program is named here.; The document's kinds of identifiers.; The two functions that tell how many bytes a number takes, the program's and the document's, answer the same plain number.; The two functions that tell a number's bytes answer the same bytes and code.; The bytes of a value: the program's and the document's. -/
import Derived.Test.YtjajandjdclifaaGreatDoorMA
import Derived.Laws.Slices
import Derived.Laws.DeepStrings4
import Derived.Test.YtjajandjdclifaaGreatDoorProg
import Derived.Lib.QuietBelow
import Derived.BigQuiet
namespace Go.Proofs.YtjajandjdclifaaGreatDoor
open Go.RowKit

namespace TX
/-- The place of the first byte that is no character's (0, if there is none). -/
def flt (s : ByteArray) : Nat := if fin s 0 = s.size then 0 else fin s 0
/-- Is there one? -/
def bad (s : ByteArray) : Bool := decide (fin s 0 ≠ s.size)
/-- A length, held to what there is. -/
def clamp (most : Int) (z : Nat) : Nat := (max 0 (min most z)).toNat
/-- Where the longest beginning ends that is a text of at most so many bytes. -/
def cutM (s : ByteArray) (most : Int) : Nat := fin (s.extract 0 (clamp most s.size)) 0

theorem clamp_le (most : Int) (z : Nat) : clamp most z ≤ z := by unfold clamp; omega
theorem size_take (s : ByteArray) (m : Nat) (h : m ≤ s.size) : (s.extract 0 m).size = m := by rw [ByteArray.size_extract]; omega
theorem cutM_le (s : ByteArray) (most : Int) : cutM s most ≤ clamp most s.size := by
  have h := (fin_le (s.extract 0 (clamp most s.size)) 0 (by omega)).2
  rw [size_take s _ (clamp_le _ _)] at h
  exact h
theorem bad_no {s : ByteArray} (h : fin s 0 = s.size) : bad s = false := by unfold bad; simp [h]
theorem bad_yes {s : ByteArray} (h : fin s 0 ≠ s.size) : bad s = true := by unfold bad; simp [h]
theorem flt_no {s : ByteArray} (h : fin s 0 = s.size) : flt s = 0 := by unfold flt; rw [if_pos h]
theorem flt_yes {s : ByteArray} (h : fin s 0 ≠ s.size) : flt s = fin s 0 := by unfold flt; rw [if_neg h]
end TX

theorem ret_ib {a c : Int} {b d : Bool} (h : a = c) (g : b = d) : Ending.returned (.tuple #[.int .i64 a, .bool b]) = .returned (.tuple #[.int .i64 c, .bool d]) := by rw [h, g]
theorem ret_string {a b : ByteArray} (h : a = b) : Ending.returned (.string a) = .returned (.string b) := by rw [h]

theorem fault_any (s : ByteArray) (hs : s.size ≤ 140737488351232) (w : World) (hT : Tabs w) :
    Calls Tryz.prog 139 #[.string s] w fun e w' => e = .returned (.tuple #[.int .i64 (TX.flt s), .bool (TX.bad s)]) ∧ Below w.heap.size w w' := by
  have C := begin_any s (by unfold maxLen; omega) w hT
  have hf := (TX.fin_le s 0 (by omega)).2
  by_cases h : TX.fin s 0 = s.size
  · rw [TX.flt_no h, TX.bad_no h]
    have e1 : (((TX.fin s 0 : Nat) : Int) == ((s.size : Nat) : Int)) = true := by rw [beq_iff_eq]; omega
    clear h
    generalize TX.fin s 0 = f at *
    go_enter Tryz.func139, Tryz.ntmps139
    go_wp2_with fail
    refine C.mono ?_
    rintro e w1 ⟨rfl, b1⟩
    go_wp2
    go_ret2
    exact ⟨rfl, b1⟩
  · rw [TX.flt_yes h, TX.bad_yes h]
    have e1 : (((TX.fin s 0 : Nat) : Int) == ((s.size : Nat) : Int)) = false := by rw [beq_eq_false_iff_ne]; omega
    clear h
    generalize TX.fin s 0 = f at *
    go_enter Tryz.func139, Tryz.ntmps139
    go_wp2_with fail
    refine C.mono ?_
    rintro e w1 ⟨rfl, b1⟩
    go_wp2
    go_ret2
    exact ⟨rfl, b1⟩

set_option maxHeartbeats 400000 in
theorem reffault_any (s : ByteArray) (hs : s.size ≤ 140737488351232) (w : World) :
    Calls Tryz.prog 132 #[.string s] w fun e w' => e = .returned (.tuple #[.int .i64 (TX.flt s), .bool (TX.bad s)]) ∧ w = w' := by
  go_enter Tryz.func132, Tryz.ntmps132
  go_wp2
  go_loop [4] (fun e => ∃ k : Nat, k ≤ s.size ∧ e = .int .i64 k ∧ Hid (TX.fin s k = TX.fin s 0)) (fun e => s.size - (intOf e).toNat)
  case atStart => exact ⟨0, by omega, rfl, Lib.hid rfl⟩
  case round =>
    obtain ⟨k, hk, rfl, hf⟩ := hrel
    by_cases hlt : k < s.size
    · have C := refchar_any s k hlt hs w
      by_cases h : TX.chr s k = 0
      · rw [h] at C
        have e1 : TX.fin s 0 ≠ s.size := by rw [← hf.out, TX.fin_no h]; omega
        have H := Lib.hid ((TX.flt_yes e1).trans (hf.out.symm.trans (TX.fin_no h)))
        have H2 := Lib.hid (TX.bad_yes e1)
        clear h e1
        go_wp2_with fail
        refine C.mono ?_
        rintro e w1 ⟨rfl, rfl⟩
        go_wp2
        go_ret2
        exact ⟨ret_ib (by rw [H.out]) H2.out.symm, rfl⟩
      · have H1 := Lib.hid (TX.fin_yes h)
        have hl := TX.chr_le s k hk
        have hp : 0 < TX.chr s k := by omega
        have h4 := TX.chr_four s k
        clear h
        generalize TX.chr s k = z at *
        have e1 : ((z : Int) == 0) = false := by rw [beq_eq_false_iff_ne]; omega
        go_wp2_with fail
        refine C.mono ?_
        rintro e w1 ⟨rfl, rfl⟩
        go_wp2
        go_round
        case rel => exact ⟨k + z, by omega, by go_num, Lib.hid (H1.out.symm.trans hf.out)⟩
        case measure => simp [intOf]; omega
    · have e1 : TX.fin s 0 = s.size := by rw [← hf.out, TX.fin_end (by omega)]; omega
      have H := Lib.hid (TX.flt_no e1)
      have H2 := Lib.hid (TX.bad_no e1)
      clear e1
      go_wp2
      go_ret2
      exact ⟨ret_ib (by rw [H.out]; rfl) H2.out.symm, rfl⟩

end Go.Proofs.YtjajandjdclifaaGreatDoor
namespace Go.Proofs.YtjajandjdclifaaGreatDoor
namespace VP

/-- Is it a width of fixed numbers? -/
def isW (w : Int) : Prop := w = 1 ∨ w = 2 ∨ w = 4

/-- The bytes of a number in w bytes, the highest first. -/
def fixL (w n : Int) : List Int :=
  if w = 1 then (if n < 0 ∨ 255 < n then [] else [n])
  else if w = 2 then (if n < 0 ∨ 65535 < n then [] else [n / 256, n % 256])
  else if w = 4 then (if n < 0 ∨ 4294967295 < n then [] else [n / 16777216, n / 65536 % 256, n / 256 % 256, n % 256])
  else []

/-- The code beside them. -/
def fixC (w n : Int) : Int :=
  if w = 1 then (if n < 0 ∨ 255 < n then 129 else 0)
  else if w = 2 then (if n < 0 ∨ 65535 < n then 129 else 0)
  else if w = 4 then (if n < 0 ∨ 4294967295 < n then 129 else 0)
  else 128

theorem fix_1out {n : Int} (h : n < 0 ∨ 255 < n) : fixL 1 n = [] ∧ fixC 1 n = 129 := by
  refine ⟨?_, ?_⟩
  · unfold fixL; rw [if_pos rfl, if_pos h]
  · unfold fixC; rw [if_pos rfl, if_pos h]
theorem fix_1 {n : Int} (h0 : 0 ≤ n) (h1 : n ≤ 255) : fixL 1 n = [n] ∧ fixC 1 n = 0 := by
  refine ⟨?_, ?_⟩
  · unfold fixL; rw [if_pos rfl, if_neg (by omega)]
  · unfold fixC; rw [if_pos rfl, if_neg (by omega)]
theorem fix_2out {n : Int} (h : n < 0 ∨ 65535 < n) : fixL 2 n = [] ∧ fixC 2 n = 129 := by
  refine ⟨?_, ?_⟩
  · unfold fixL; rw [if_neg (by decide), if_pos rfl, if_pos h]
  · unfold fixC; rw [if_neg (by decide), if_pos rfl, if_pos h]
theorem fix_2 {n : Int} (h0 : 0 ≤ n) (h1 : n ≤ 65535) : fixL 2 n = [n / 256, n % 256] ∧ fixC 2 n = 0 := by
  refine ⟨?_, ?_⟩
  · unfold fixL; rw [if_neg (by decide), if_pos rfl, if_neg (by omega)]
  · unfold fixC; rw [if_neg (by decide), if_pos rfl, if_neg (by omega)]
theorem fix_4out {n : Int} (h : n < 0 ∨ 4294967295 < n) : fixL 4 n = [] ∧ fixC 4 n = 129 := by
  refine ⟨?_, ?_⟩
  · unfold fixL; rw [if_neg (by decide), if_neg (by decide), if_pos rfl, if_pos h]
  · unfold fixC; rw [if_neg (by decide), if_neg (by decide), if_pos rfl, if_pos h]
theorem fix_4 {n : Int} (h0 : 0 ≤ n) (h1 : n ≤ 4294967295) : fixL 4 n = [n / 16777216, n / 65536 % 256, n / 256 % 256, n % 256] ∧ fixC 4 n = 0 := by
  refine ⟨?_, ?_⟩
  · unfold fixL; rw [if_neg (by decide), if_neg (by decide), if_pos rfl, if_neg (by omega)]
  · unfold fixC; rw [if_neg (by decide), if_neg (by decide), if_pos rfl, if_neg (by omega)]
theorem fix_no {w n : Int} (h : ¬ isW w) : fixL w n = [] ∧ fixC w n = 128 := by
  unfold isW at h
  refine ⟨?_, ?_⟩
  · unfold fixL; rw [if_neg (by omega), if_neg (by omega), if_neg (by omega)]
  · unfold fixC; rw [if_neg (by omega), if_neg (by omega), if_neg (by omega)]
theorem fixC_le (w n : Int) : 0 ≤ fixC w n ∧ fixC w n ≤ 129 := by
  unfold fixC; repeat' split
  all_goals decide

/-- The number in w bytes at a place of s, the place behind it, the code. -/
def rd (s : ByteArray) (at_ w : Int) : Int × Int × Int :=
  if at_ < 0 ∨ (s.size : Int) < at_ then (0, 0, 128)
  else if w = 1 then (if h : at_.toNat < s.size then (((s[at_.toNat]'h).toNat : Int), at_ + 1, 0) else (0, 0, 242))
  else if w = 2 then (if h : at_.toNat + 1 < s.size then (((s[at_.toNat]'(by omega)).toNat : Int) * 256 + (s[at_.toNat + 1]'h).toNat, at_ + 2, 0) else (0, 0, 242))
  else if w = 4 then (if h : at_.toNat + 3 < s.size then
    (((((s[at_.toNat]'(by omega)).toNat : Int) * 256 + (s[at_.toNat + 1]'(by omega)).toNat) * 256 + (s[at_.toNat + 2]'(by omega)).toNat) * 256 + (s[at_.toNat + 3]'h).toNat, at_ + 4, 0) else (0, 0, 242))
  else (0, 0, 128)

theorem rd_out (s : ByteArray) (at_ w : Int) (h : at_ < 0 ∨ (s.size : Int) < at_) : rd s at_ w = (0, 0, 128) := by unfold rd; rw [if_pos h]
theorem rd_no (s : ByteArray) (at_ w : Int) (h : ¬ isW w) : rd s at_ w = (0, 0, 128) := by
  unfold isW at h
  unfold rd
  split
  · rfl
  · rw [if_neg (by omega), if_neg (by omega), if_neg (by omega)]
theorem rd_1 (s : ByteArray) (k : Nat) (h : k < s.size) : rd s k 1 = (((s[k]'h).toNat : Int), (k : Int) + 1, 0) := by
  unfold rd; rw [if_neg (by omega), if_pos rfl, dif_pos (by simpa using h)]; simp
theorem rd_1few (s : ByteArray) (k : Nat) (hk : k ≤ s.size) (h : ¬ k < s.size) : rd s k 1 = (0, 0, 242) := by
  unfold rd; rw [if_neg (by omega), if_pos rfl, dif_neg (by simpa using h)]
theorem rd_2 (s : ByteArray) (k : Nat) (h : k + 1 < s.size) : rd s k 2 = (((s[k]'(by omega)).toNat : Int) * 256 + (s[k + 1]'h).toNat, (k : Int) + 2, 0) := by
  unfold rd; rw [if_neg (by omega), if_neg (by decide), if_pos rfl, dif_pos (by simpa using h)]; simp
theorem rd_2few (s : ByteArray) (k : Nat) (hk : k ≤ s.size) (h : ¬ k + 1 < s.size) : rd s k 2 = (0, 0, 242) := by
  unfold rd; rw [if_neg (by omega), if_neg (by decide), if_pos rfl, dif_neg (by simpa using h)]
theorem rd_4 (s : ByteArray) (k : Nat) (h : k + 3 < s.size) :
    rd s k 4 = (((((s[k]'(by omega)).toNat : Int) * 256 + (s[k + 1]'(by omega)).toNat) * 256 + (s[k + 2]'(by omega)).toNat) * 256 + (s[k + 3]'h).toNat, (k : Int) + 4, 0) := by
  unfold rd; rw [if_neg (by omega), if_neg (by decide), if_neg (by decide), if_pos rfl, dif_pos (by simpa using h)]; simp
theorem rd_4few (s : ByteArray) (k : Nat) (hk : k ≤ s.size) (h : ¬ k + 3 < s.size) : rd s k 4 = (0, 0, 242) := by
  unfold rd; rw [if_neg (by omega), if_neg (by decide), if_neg (by decide), if_pos rfl, dif_neg (by simpa using h)]
theorem rd_code (s : ByteArray) (at_ w : Int) : 0 ≤ (rd s at_ w).2.2 ∧ (rd s at_ w).2.2 ≤ 242 := by
  unfold rd; repeat' split
  all_goals (constructor <;> simp)

/-- The data at a place of s, the place behind it, the code. -/
def dat (s : ByteArray) (at_ : Int) : ByteArray × Int × Int :=
  if (rd s at_ 2).2.2 = 0 then
    (if (s.size : Int) - (rd s at_ 2).2.1 < (rd s at_ 2).1 then (⟨#[]⟩, 0, 242)
     else (s.extract (rd s at_ 2).2.1.toNat ((rd s at_ 2).2.1 + (rd s at_ 2).1).toNat, (rd s at_ 2).2.1 + (rd s at_ 2).1, 0))
  else (⟨#[]⟩, 0, (rd s at_ 2).2.2)

theorem rd2_ok (s : ByteArray) (at_ : Int) (h : (rd s at_ 2).2.2 = 0) : ∃ k L : Nat, at_ = k ∧ k + 2 ≤ s.size ∧ L < 65536 ∧ rd s at_ 2 = ((L : Int), (k : Int) + 2, 0) := by
  by_cases ho : at_ < 0 ∨ (s.size : Int) < at_
  · rw [rd_out s at_ 2 ho] at h; exact absurd h (by decide)
  · obtain ⟨k, rfl⟩ := Int.eq_ofNat_of_zero_le (show 0 ≤ at_ by omega)
    by_cases hk : k + 1 < s.size
    · refine ⟨k, (s[k]'(by omega)).toNat * 256 + (s[k + 1]'hk).toNat, rfl, by omega, ?_, ?_⟩
      · have h0 := (s[k]'(by omega)).toNat_lt
        have h1 := (s[k + 1]'hk).toNat_lt
        omega
      · rw [rd_2 s k hk]; simp
    · rw [rd_2few s k (by omega) hk] at h; exact absurd h (by decide)
theorem dat_bad (s : ByteArray) (at_ : Int) (h : ¬ (rd s at_ 2).2.2 = 0) : dat s at_ = (⟨#[]⟩, 0, (rd s at_ 2).2.2) := by unfold dat; rw [if_neg h]
theorem dat_few (s : ByteArray) (k L : Nat) (h : rd s k 2 = ((L : Int), (k : Int) + 2, 0)) (hl : (s.size : Int) - (k + 2) < L) : dat s k = (⟨#[]⟩, 0, 242) := by
  unfold dat; rw [h, if_pos rfl, if_pos hl]
theorem dat_ok (s : ByteArray) (k L : Nat) (h : rd s k 2 = ((L : Int), (k : Int) + 2, 0)) (hl : ¬ (s.size : Int) - (k + 2) < L) : dat s k = (s.extract (k + 2) (k + 2 + L), (k : Int) + 2 + L, 0) := by
  unfold dat; rw [h, if_pos rfl, if_neg hl]
  have e1 : ((k : Int) + 2).toNat = k + 2 := by omega
  have e2 : ((k : Int) + 2 + L).toNat = k + 2 + L := by omega
  simp only [e1, e2]
theorem dat_code (s : ByteArray) (at_ : Int) : 0 ≤ (dat s at_).2.2 ∧ (dat s at_).2.2 ≤ 242 := by
  have := rd_code s at_ 2
  unfold dat
  split
  · split
    · exact ⟨by decide, by decide⟩
    · exact ⟨Int.le_refl 0, (by decide : (0 : Int) ≤ 242)⟩
  · exact this

end VP
end Go.Proofs.YtjajandjdclifaaGreatDoor
namespace Go.Proofs.YtjajandjdclifaaGreatDoor
open Go.RowKit

set_option maxHeartbeats 1000000 in
theorem fixed_any (wd n : Int) (hr : -9223372036854775808 ≤ n) (hr' : n ≤ 9223372036854775807) (w : World) :
    Calls Tryz.prog 44 #[.int .i64 wd, .int .i64 n] w fun e w' => e = .returned (.tuple #[.string (strOfNums (VP.fixL wd n)), .int .u8 (VP.fixC wd n)]) ∧ Below w.heap.size w w' := by
  by_cases hw : VP.isW wd
  · rcases hw with rfl | rfl | rfl
    · by_cases hn : n < 0
      · rw [(VP.fix_1out (.inl hn)).1, (VP.fix_1out (.inl hn)).2]
        go_enter Tryz.func44, Tryz.ntmps44
        go_wp2
        go_ret2
        exact ⟨rfl, Below.refl _ _⟩
      · by_cases hn2 : 255 < n
        · rw [(VP.fix_1out (.inr hn2)).1, (VP.fix_1out (.inr hn2)).2]
          have hq : (n / 256 != 0) = true := by rw [bne_iff_ne]; omega
          go_enter Tryz.func44, Tryz.ntmps44
          go_wp2
          go_ret2
          exact ⟨rfl, Below.refl _ _⟩
        · have hl := Lib.hid (VP.fix_1 (n := n) (by omega) (by omega))
          have hq : (n / 256 != 0) = false := by rw [bne_eq_false_iff_eq]; omega
          have h0 : 0 ≤ n := by omega
          have h1 : n ≤ 255 := by omega
          clear hn hn2
          have hmk := make1
          have hcv := conv1
          go_enter Tryz.func44, Tryz.ntmps44
          go_wp2
          refine wp_loop_rounds 2 ?_
          iterate 2 (rw [rounds_succ]; go_wp2)
          go_ret2
          refine ⟨ret_bytes ?_ hl.out.2.symm, (Below.refl _ _).alloc (Nat.le_refl _) _⟩
          rw [hl.out.1]
    · by_cases hn : n < 0
      · rw [(VP.fix_2out (.inl hn)).1, (VP.fix_2out (.inl hn)).2]
        go_enter Tryz.func44, Tryz.ntmps44
        go_wp2
        go_ret2
        exact ⟨rfl, Below.refl _ _⟩
      · by_cases hn2 : 65535 < n
        · rw [(VP.fix_2out (.inr hn2)).1, (VP.fix_2out (.inr hn2)).2]
          have hq : (n / 65536 != 0) = true := by rw [bne_iff_ne]; omega
          go_enter Tryz.func44, Tryz.ntmps44
          go_wp2
          go_ret2
          exact ⟨rfl, Below.refl _ _⟩
        · have hl := Lib.hid (VP.fix_2 (n := n) (by omega) (by omega))
          have hq : (n / 65536 != 0) = false := by rw [bne_eq_false_iff_eq]; omega
          have h0 : 0 ≤ n := by omega
          have h1 : n ≤ 65535 := by omega
          clear hn hn2
          have hmk := make2
          have hcv := conv2
          go_enter Tryz.func44, Tryz.ntmps44
          go_wp2
          refine wp_loop_rounds 3 ?_
          iterate 3 (rw [rounds_succ]; go_wp2)
          go_ret2
          refine ⟨ret_bytes ?_ hl.out.2.symm, (Below.refl _ _).alloc (Nat.le_refl _) _⟩
          rw [hl.out.1]
    · by_cases hn : n < 0
      · rw [(VP.fix_4out (.inl hn)).1, (VP.fix_4out (.inl hn)).2]
        go_enter Tryz.func44, Tryz.ntmps44
        go_wp2
        go_ret2
        exact ⟨rfl, Below.refl _ _⟩
      · by_cases hn2 : 4294967295 < n
        · rw [(VP.fix_4out (.inr hn2)).1, (VP.fix_4out (.inr hn2)).2]
          have hq : (n / 4294967296 != 0) = true := by rw [bne_iff_ne]; omega
          go_enter Tryz.func44, Tryz.ntmps44
          go_wp2
          go_ret2
          exact ⟨rfl, Below.refl _ _⟩
        · have hl := Lib.hid (VP.fix_4 (n := n) (by omega) (by omega))
          have hq : (n / 4294967296 != 0) = false := by rw [bne_eq_false_iff_eq]; omega
          have h0 : 0 ≤ n := by omega
          have h1 : n ≤ 4294967295 := by omega
          clear hn hn2
          have hmk := make4
          have hcv := conv4
          go_enter Tryz.func44, Tryz.ntmps44
          go_wp2
          refine wp_loop_rounds 5 ?_
          iterate 5 (rw [rounds_succ]; go_wp2)
          go_ret2
          refine ⟨ret_bytes ?_ hl.out.2.symm, (Below.refl _ _).alloc (Nat.le_refl _) _⟩
          rw [hl.out.1]
  · rw [(VP.fix_no hw).1, (VP.fix_no hw).2]
    unfold VP.isW at hw
    have e1 : (wd == 1) = false := by rw [beq_eq_false_iff_ne]; omega
    have e2 : (wd == 2) = false := by rw [beq_eq_false_iff_ne]; omega
    have e4 : (wd == 4) = false := by rw [beq_eq_false_iff_ne]; omega
    clear hw
    go_enter Tryz.func44, Tryz.ntmps44
    go_wp2
    go_ret2
    exact ⟨rfl, Below.refl _ _⟩

end Go.Proofs.YtjajandjdclifaaGreatDoor
namespace Go.Proofs.YtjajandjdclifaaGreatDoor
open Go.RowKit

theorem within_yes (s : ByteArray) (k : Nat) (_hs : s.size ≤ maxLen) (hk : k ≤ s.size) (w : World) :
    Calls Tryz.prog 57 #[.string s, .int .i64 k] w fun e w' => e = .returned (.bool true) ∧ w = w' := by
  go_enter Tryz.func57, Tryz.ntmps57
  go_wp2
  go_ret
  exact ⟨rfl, rfl⟩

theorem within_no (s : ByteArray) (at_ : Int) (_hs : s.size ≤ maxLen) (hk : at_ < 0 ∨ (s.size : Int) < at_) (w : World) :
    Calls Tryz.prog 57 #[.string s, .int .i64 at_] w fun e w' => e = .returned (.bool false) ∧ w = w' := by
  by_cases h : at_ < 0
  · go_enter Tryz.func57, Tryz.ntmps57
    go_wp2
    go_ret
    exact ⟨rfl, rfl⟩
  · have h0 : 0 ≤ at_ := by omega
    have h1 : decide (at_ ≤ (s.size : Int)) = false := by simp; omega
    clear hk
    go_enter Tryz.func57, Tryz.ntmps57
    go_wp2
    go_ret
    exact ⟨rfl, rfl⟩

end Go.Proofs.YtjajandjdclifaaGreatDoor
namespace Go.Proofs.YtjajandjdclifaaGreatDoor
open Go.RowKit

theorem isw_yes (wd : Int) (h : VP.isW wd) (w : World) : Calls Tryz.prog 88 #[.int .i64 wd] w fun e w' => e = .returned (.bool true) ∧ w = w' := by
  rcases h with rfl | rfl | rfl
  all_goals
    go_enter Tryz.func88, Tryz.ntmps88
    go_wp2
    go_ret
    exact ⟨rfl, rfl⟩

theorem isw_no (wd : Int) (h : ¬ VP.isW wd) (w : World) : Calls Tryz.prog 88 #[.int .i64 wd] w fun e w' => e = .returned (.bool false) ∧ w = w' := by
  unfold VP.isW at h
  have e1 : (wd == 1) = false := by rw [beq_eq_false_iff_ne]; omega
  have e2 : (wd == 2) = false := by rw [beq_eq_false_iff_ne]; omega
  have e4 : (wd == 4) = false := by rw [beq_eq_false_iff_ne]; omega
  clear h
  go_enter Tryz.func88, Tryz.ntmps88
  go_wp2
  go_ret
  exact ⟨rfl, rfl⟩

theorem or256 (x y : Int) (h0 : 0 ≤ x) (h1 : x < 16777216) (g0 : 0 ≤ y) (g1 : y < 256) : bits .or .i64 (x * 256) y = x * 256 + y :=
  bits_join .i64 62 (by decide) wraps_i64' 8 (x * 256) y (by omega) (by simp) (by omega) g0 g1 (by omega)
theorem or0 (y : Int) (g0 : 0 ≤ y) (g1 : y < 256) : bits .or .i64 0 y = y := by
  have := or256 0 y (by omega) (by omega) g0 g1
  simpa using this

set_option maxRecDepth 100000 in
set_option maxHeartbeats 1000000 in
theorem read_1 (s : ByteArray) (k : Nat) (hs : s.size ≤ maxLen) (hk : k ≤ s.size) (w : World) :
    Calls Tryz.prog 140 #[.string s, .int .i64 k, .int .i64 1] w fun e w' => e = .returned (.tuple #[.int .i64 (VP.rd s k 1).1, .int .i64 (VP.rd s k 1).2.1, .int .u8 (VP.rd s k 1).2.2]) ∧ w = w' := by
  have hs' := hs
  unfold maxLen at hs'
  by_cases h : k < s.size
  · have hg := Lib.hid (VP.rd_1 s k h)
    have hb0 := byte_lt s (k) (by omega)
    have hq0 := or0 ((s[k]'(by omega)).toNat : Int) (by omega) hb0
    go_enter Tryz.func140, Tryz.ntmps140
    go_wp2_with fail
    refine (isw_yes 1 (.inl rfl) _).mono ?_
    rintro e w' ⟨rfl, rfl⟩
    go_wp2_with fail
    refine (within_yes s k hs hk _).mono ?_
    rintro e w' ⟨rfl, rfl⟩
    go_wp2
    refine wp_loop_rounds 2 ?_
    iterate 2 (rw [rounds_succ]; go_wp2)
    go_ret3
    exact ⟨ret_three hg.out, rfl⟩
  · have hg := Lib.hid (VP.rd_1few s k hk h)
    go_enter Tryz.func140, Tryz.ntmps140
    go_wp2_with fail
    refine (isw_yes 1 (.inl rfl) _).mono ?_
    rintro e w' ⟨rfl, rfl⟩
    go_wp2_with fail
    refine (within_yes s k hs hk _).mono ?_
    rintro e w' ⟨rfl, rfl⟩
    go_wp2
    go_ret3
    exact ⟨ret_three hg.out, rfl⟩

set_option maxRecDepth 100000 in
set_option maxHeartbeats 1000000 in
theorem read_2 (s : ByteArray) (k : Nat) (hs : s.size ≤ maxLen) (hk : k ≤ s.size) (w : World) :
    Calls Tryz.prog 140 #[.string s, .int .i64 k, .int .i64 2] w fun e w' => e = .returned (.tuple #[.int .i64 (VP.rd s k 2).1, .int .i64 (VP.rd s k 2).2.1, .int .u8 (VP.rd s k 2).2.2]) ∧ w = w' := by
  have hs' := hs
  unfold maxLen at hs'
  by_cases h : k + 1 < s.size
  · have hg := Lib.hid (VP.rd_2 s k h)
    have hb0 := byte_lt s (k) (by omega)
    have hb1 := byte_lt s (k + 1) (by omega)
    have hq0 := or0 ((s[k]'(by omega)).toNat : Int) (by omega) hb0
    have hq1 := or256 (((s[k]'(by omega)).toNat : Int)) ((s[k + 1]'(by omega)).toNat : Int) (by omega) (by omega) (by omega) hb1
    go_enter Tryz.func140, Tryz.ntmps140
    go_wp2_with fail
    refine (isw_yes 2 (.inr (.inl rfl)) _).mono ?_
    rintro e w' ⟨rfl, rfl⟩
    go_wp2_with fail
    refine (within_yes s k hs hk _).mono ?_
    rintro e w' ⟨rfl, rfl⟩
    go_wp2
    refine wp_loop_rounds 3 ?_
    iterate 3 (rw [rounds_succ]; go_wp2)
    go_ret3
    exact ⟨ret_three hg.out, rfl⟩
  · have hg := Lib.hid (VP.rd_2few s k hk h)
    go_enter Tryz.func140, Tryz.ntmps140
    go_wp2_with fail
    refine (isw_yes 2 (.inr (.inl rfl)) _).mono ?_
    rintro e w' ⟨rfl, rfl⟩
    go_wp2_with fail
    refine (within_yes s k hs hk _).mono ?_
    rintro e w' ⟨rfl, rfl⟩
    go_wp2
    go_ret3
    exact ⟨ret_three hg.out, rfl⟩

set_option maxRecDepth 100000 in
set_option maxHeartbeats 1000000 in
theorem read_4 (s : ByteArray) (k : Nat) (hs : s.size ≤ maxLen) (hk : k ≤ s.size) (w : World) :
    Calls Tryz.prog 140 #[.string s, .int .i64 k, .int .i64 4] w fun e w' => e = .returned (.tuple #[.int .i64 (VP.rd s k 4).1, .int .i64 (VP.rd s k 4).2.1, .int .u8 (VP.rd s k 4).2.2]) ∧ w = w' := by
  have hs' := hs
  unfold maxLen at hs'
  by_cases h : k + 3 < s.size
  · have hg := Lib.hid (VP.rd_4 s k h)
    have hb0 := byte_lt s (k) (by omega)
    have hb1 := byte_lt s (k + 1) (by omega)
    have hb2 := byte_lt s (k + 2) (by omega)
    have hb3 := byte_lt s (k + 3) (by omega)
    have hq0 := or0 ((s[k]'(by omega)).toNat : Int) (by omega) hb0
    have hq1 := or256 (((s[k]'(by omega)).toNat : Int)) ((s[k + 1]'(by omega)).toNat : Int) (by omega) (by omega) (by omega) hb1
    have hq2 := or256 (((s[k]'(by omega)).toNat : Int) * 256 + ((s[k + 1]'(by omega)).toNat : Int)) ((s[k + 2]'(by omega)).toNat : Int) (by omega) (by omega) (by omega) hb2
    have hq3 := or256 ((((s[k]'(by omega)).toNat : Int) * 256 + ((s[k + 1]'(by omega)).toNat : Int)) * 256 + ((s[k + 2]'(by omega)).toNat : Int)) ((s[k + 3]'(by omega)).toNat : Int) (by omega) (by omega) (by omega) hb3
    go_enter Tryz.func140, Tryz.ntmps140
    go_wp2_with fail
    refine (isw_yes 4 (.inr (.inr rfl)) _).mono ?_
    rintro e w' ⟨rfl, rfl⟩
    go_wp2_with fail
    refine (within_yes s k hs hk _).mono ?_
    rintro e w' ⟨rfl, rfl⟩
    go_wp2
    refine wp_loop_rounds 5 ?_
    iterate 5 (rw [rounds_succ]; go_wp2)
    go_ret3
    exact ⟨ret_three hg.out, rfl⟩
  · have hg := Lib.hid (VP.rd_4few s k hk h)
    go_enter Tryz.func140, Tryz.ntmps140
    go_wp2_with fail
    refine (isw_yes 4 (.inr (.inr rfl)) _).mono ?_
    rintro e w' ⟨rfl, rfl⟩
    go_wp2_with fail
    refine (within_yes s k hs hk _).mono ?_
    rintro e w' ⟨rfl, rfl⟩
    go_wp2
    go_ret3
    exact ⟨ret_three hg.out, rfl⟩

theorem read_any (s : ByteArray) (at_ wd : Int) (hs : s.size ≤ maxLen) (w : World) :
    Calls Tryz.prog 140 #[.string s, .int .i64 at_, .int .i64 wd] w fun e w' => e = .returned (.tuple #[.int .i64 (VP.rd s at_ wd).1, .int .i64 (VP.rd s at_ wd).2.1, .int .u8 (VP.rd s at_ wd).2.2]) ∧ w = w' := by
  by_cases hw : VP.isW wd
  · by_cases h : at_ < 0 ∨ (s.size : Int) < at_
    · rw [VP.rd_out s at_ wd h]
      have H := Lib.hid h
      have HW := Lib.hid hw
      clear h hw
      go_enter Tryz.func140, Tryz.ntmps140
      go_wp2_with fail
      refine (isw_yes wd HW.out _).mono ?_
      rintro e w' ⟨rfl, rfl⟩
      go_wp2_with fail
      refine (within_no s at_ hs H.out _).mono ?_
      rintro e w' ⟨rfl, rfl⟩
      go_wp2
      go_ret3
      exact ⟨rfl, rfl⟩
    · obtain ⟨k, rfl⟩ := Int.eq_ofNat_of_zero_le (show 0 ≤ at_ by omega)
      rcases hw with rfl | rfl | rfl
      · exact read_1 s k hs (by omega) w
      · exact read_2 s k hs (by omega) w
      · exact read_4 s k hs (by omega) w
  · rw [VP.rd_no s at_ wd hw]
    have HW := Lib.hid hw
    clear hw
    go_enter Tryz.func140, Tryz.ntmps140
    go_wp2_with fail
    refine (isw_no wd HW.out _).mono ?_
    rintro e w' ⟨rfl, rfl⟩
    go_wp2
    go_ret3
    exact ⟨rfl, rfl⟩

end Go.Proofs.YtjajandjdclifaaGreatDoor
namespace Go.Proofs.YtjajandjdclifaaGreatDoor
open Go.RowKit

set_option maxRecDepth 100000 in
set_option maxHeartbeats 1000000 in
theorem refread_1 (s : ByteArray) (k : Nat) (hs : s.size ≤ maxLen) (hk : k ≤ s.size) (w : World) :
    Calls Tryz.prog 107 #[.string s, .int .i64 k, .int .i64 1] w fun e w' => e = .returned (.tuple #[.int .i64 (VP.rd s k 1).1, .int .i64 (VP.rd s k 1).2.1, .int .i64 (VP.rd s k 1).2.2]) ∧ w = w' := by
  unfold maxLen at hs
  have hd : decide (s.size < k) = false := by simp; omega
  have hd2 : decide ((k : Int) < 0) = false := by simp
  by_cases h : k < s.size
  · have hg := Lib.hid (VP.rd_1 s k h)
    have hb0 := byte_lt s (k) (by omega)
    go_enter Tryz.func107, Tryz.ntmps107
    go_wp2
    refine wp_loop_rounds 2 ?_
    iterate 2 (rw [rounds_succ]; go_wp2)
    go_ret3
    exact ⟨ret_three hg.out, rfl⟩
  · have hg := Lib.hid (VP.rd_1few s k hk h)
    go_enter Tryz.func107, Tryz.ntmps107
    go_wp2
    go_ret3
    exact ⟨ret_three hg.out, rfl⟩

set_option maxRecDepth 100000 in
set_option maxHeartbeats 1000000 in
theorem refread_2 (s : ByteArray) (k : Nat) (hs : s.size ≤ maxLen) (hk : k ≤ s.size) (w : World) :
    Calls Tryz.prog 107 #[.string s, .int .i64 k, .int .i64 2] w fun e w' => e = .returned (.tuple #[.int .i64 (VP.rd s k 2).1, .int .i64 (VP.rd s k 2).2.1, .int .i64 (VP.rd s k 2).2.2]) ∧ w = w' := by
  unfold maxLen at hs
  have hd : decide (s.size < k) = false := by simp; omega
  have hd2 : decide ((k : Int) < 0) = false := by simp
  by_cases h : k + 1 < s.size
  · have hg := Lib.hid (VP.rd_2 s k h)
    have hb0 := byte_lt s (k) (by omega)
    have hb1 := byte_lt s (k + 1) (by omega)
    go_enter Tryz.func107, Tryz.ntmps107
    go_wp2
    refine wp_loop_rounds 3 ?_
    iterate 3 (rw [rounds_succ]; go_wp2)
    go_ret3
    exact ⟨ret_three hg.out, rfl⟩
  · have hg := Lib.hid (VP.rd_2few s k hk h)
    go_enter Tryz.func107, Tryz.ntmps107
    go_wp2
    go_ret3
    exact ⟨ret_three hg.out, rfl⟩

set_option maxRecDepth 100000 in
set_option maxHeartbeats 1000000 in
theorem refread_4 (s : ByteArray) (k : Nat) (hs : s.size ≤ maxLen) (hk : k ≤ s.size) (w : World) :
    Calls Tryz.prog 107 #[.string s, .int .i64 k, .int .i64 4] w fun e w' => e = .returned (.tuple #[.int .i64 (VP.rd s k 4).1, .int .i64 (VP.rd s k 4).2.1, .int .i64 (VP.rd s k 4).2.2]) ∧ w = w' := by
  unfold maxLen at hs
  have hd : decide (s.size < k) = false := by simp; omega
  have hd2 : decide ((k : Int) < 0) = false := by simp
  by_cases h : k + 3 < s.size
  · have hg := Lib.hid (VP.rd_4 s k h)
    have hb0 := byte_lt s (k) (by omega)
    have hb1 := byte_lt s (k + 1) (by omega)
    have hb2 := byte_lt s (k + 2) (by omega)
    have hb3 := byte_lt s (k + 3) (by omega)
    go_enter Tryz.func107, Tryz.ntmps107
    go_wp2
    refine wp_loop_rounds 5 ?_
    iterate 5 (rw [rounds_succ]; go_wp2)
    go_ret3
    exact ⟨ret_three hg.out, rfl⟩
  · have hg := Lib.hid (VP.rd_4few s k hk h)
    go_enter Tryz.func107, Tryz.ntmps107
    go_wp2
    go_ret3
    exact ⟨ret_three hg.out, rfl⟩

set_option maxHeartbeats 1000000 in
theorem refread_any (s : ByteArray) (at_ wd : Int) (hs : s.size ≤ maxLen) (w : World) :
    Calls Tryz.prog 107 #[.string s, .int .i64 at_, .int .i64 wd] w fun e w' => e = .returned (.tuple #[.int .i64 (VP.rd s at_ wd).1, .int .i64 (VP.rd s at_ wd).2.1, .int .i64 (VP.rd s at_ wd).2.2]) ∧ w = w' := by
  by_cases hw : VP.isW wd
  · by_cases h : at_ < 0
    · rw [VP.rd_out s at_ wd (.inl h)]
      rcases hw with rfl | rfl | rfl
      all_goals
        go_enter Tryz.func107, Tryz.ntmps107
        go_wp2
        go_ret3
        exact ⟨rfl, rfl⟩
    · by_cases h2 : (s.size : Int) < at_
      · rw [VP.rd_out s at_ wd (.inr h2)]
        unfold maxLen at hs
        rcases hw with rfl | rfl | rfl
        all_goals
          go_enter Tryz.func107, Tryz.ntmps107
          go_wp2
          go_ret3
          exact ⟨rfl, rfl⟩
      · obtain ⟨k, rfl⟩ := Int.eq_ofNat_of_zero_le (show 0 ≤ at_ by omega)
        rcases hw with rfl | rfl | rfl
        · exact refread_1 s k hs (by omega) w
        · exact refread_2 s k hs (by omega) w
        · exact refread_4 s k hs (by omega) w
  · rw [VP.rd_no s at_ wd hw]
    unfold VP.isW at hw
    have e1 : (wd == 1) = false := by rw [beq_eq_false_iff_ne]; omega
    have e2 : (wd == 2) = false := by rw [beq_eq_false_iff_ne]; omega
    have e4 : (wd == 4) = false := by rw [beq_eq_false_iff_ne]; omega
    clear hw
    go_enter Tryz.func107, Tryz.ntmps107
    go_wp2
    go_ret3
    exact ⟨rfl, rfl⟩

end Go.Proofs.YtjajandjdclifaaGreatDoor
namespace Go.Proofs.YtjajandjdclifaaGreatDoor
open Go.RowKit

set_option maxHeartbeats 400000 in
theorem data_any (s : ByteArray) (hs : s.size ≤ maxLen) (w : World) :
    Calls Tryz.prog 133 #[.string s] w fun e w' => e = .returned (.tuple #[.string (if s.size ≤ 65535 then strOfNums [(s.size : Int) / 256, (s.size : Int) % 256] ++ s else ⟨#[]⟩), .int .u8 (if s.size ≤ 65535 then 0 else 149)]) ∧ Below w.heap.size w w' := by
  unfold maxLen at hs
  by_cases h : s.size ≤ 65535
  · rw [if_pos h, if_pos h]
    have hf := Lib.hid (VP.fix_2 (n := (s.size : Int)) (by omega) (by omega)).1
    have hsz := strOfNums_size
    go_enter Tryz.func133, Tryz.ntmps133
    go_wp2_with fail
    refine (fixed_any 2 _ (by omega) (by omega) _).mono ?_
    rintro e w1 ⟨rfl, b1⟩
    rw [hf.out]
    go_wp2
    go_ret2
    exact ⟨rfl, b1⟩
  · rw [if_neg h, if_neg h]
    go_enter Tryz.func133, Tryz.ntmps133
    go_wp2
    go_ret2
    exact ⟨rfl, Below.refl _ _⟩

theorem slice_at (s : ByteArray) (k L : Nat) (h : k + 2 + L ≤ s.size) (w : World) :
    (Instr.slice 9 (.string s) (some (.int .i64 ((k : Int) + 2))) (some (.int .i64 ((k : Int) + 2 + (L : Int)))) none).run Tryz.prog w = .ok (.string (s.extract (k + 2) (k + 2 + L))) w := by
  rw [run_slice_string_if w 9 s .i64 .i64 _ _ Tryz.underlying9, if_pos (by omega), if_pos (by omega)]
  have e1 : ((k : Int) + 2).toNat = k + 2 := by omega
  have e2 : ((k : Int) + 2 + L).toNat = k + 2 + L := by omega
  rw [e1, e2]

set_option maxHeartbeats 400000 in
theorem getdata_any (s : ByteArray) (at_ : Int) (hs : s.size ≤ maxLen) (w : World) :
    Calls Tryz.prog 141 #[.string s, .int .i64 at_] w fun e w' => e = .returned (.tuple #[.string (VP.dat s at_).1, .int .i64 (VP.dat s at_).2.1, .int .u8 (VP.dat s at_).2.2]) ∧ Below w.heap.size w w' := by
  have hs' := hs
  unfold maxLen at hs'
  by_cases hc : (VP.rd s at_ 2).2.2 = 0
  · obtain ⟨k, L, rfl, hk, hL, hrd⟩ := VP.rd2_ok s at_ hc
    clear hc
    by_cases hl : (s.size : Int) - (k + 2) < L
    · rw [VP.dat_few s k L hrd hl]
      have HR := Lib.hid hrd
      clear hrd
      go_enter Tryz.func141, Tryz.ntmps141
      go_wp2_with fail
      refine (read_any s k 2 hs _).mono ?_
      rintro e w' ⟨rfl, rfl⟩
      rw [HR.out]
      go_wp2
      go_ret3
      exact ⟨rfl, Below.refl _ _⟩
    · rw [VP.dat_ok s k L hrd hl]
      have HR := Lib.hid hrd
      have hsl := slice_at s k L (by omega)
      clear hrd
      go_enter Tryz.func141, Tryz.ntmps141
      go_wp2_with fail
      refine (read_any s k 2 hs _).mono ?_
      rintro e w' ⟨rfl, rfl⟩
      rw [HR.out]
      go_wp2_with fail
      refine (clone_any (s.extract (k + 2) (k + 2 + L)) _ (by simp; omega)).mono ?_
      rintro e w1 ⟨rfl, b1⟩
      go_wp2
      go_ret3
      exact ⟨rfl, b1⟩
  · rw [VP.dat_bad s at_ hc]
    obtain ⟨c, hcd⟩ : ∃ c, c = (VP.rd s at_ 2).2.2 := ⟨_, rfl⟩
    have hne : (c != 0) = true := by rw [hcd, bne_iff_ne]; exact hc
    obtain ⟨a, b, hab⟩ : ∃ a b, VP.rd s at_ 2 = (a, b, c) := ⟨_, _, by rw [hcd]⟩
    rw [← hcd]
    have HR := Lib.hid hab
    clear hcd hab hc
    go_enter Tryz.func141, Tryz.ntmps141
    go_wp2_with fail
    refine (read_any s at_ 2 hs _).mono ?_
    rintro e w' ⟨rfl, rfl⟩
    rw [HR.out]
    go_wp2
    go_ret3
    exact ⟨rfl, Below.refl _ _⟩

set_option maxHeartbeats 400000 in
theorem refgetdata_any (s : ByteArray) (at_ : Int) (hs : s.size ≤ maxLen) (w : World) :
    Calls Tryz.prog 126 #[.string s, .int .i64 at_] w fun e w' => e = .returned (.tuple #[.string (VP.dat s at_).1, .int .i64 (VP.dat s at_).2.1, .int .i64 (VP.dat s at_).2.2]) ∧ Below w.heap.size w w' := by
  have hs' := hs
  unfold maxLen at hs'
  by_cases hc : (VP.rd s at_ 2).2.2 = 0
  · obtain ⟨k, L, rfl, hk, hL, hrd⟩ := VP.rd2_ok s at_ hc
    clear hc
    by_cases hl : (s.size : Int) - (k + 2) < L
    · rw [VP.dat_few s k L hrd hl]
      have HR := Lib.hid hrd
      clear hrd
      go_enter Tryz.func126, Tryz.ntmps126
      go_wp2_with fail
      refine (refread_any s k 2 hs _).mono ?_
      rintro e w' ⟨rfl, rfl⟩
      rw [HR.out]
      go_wp2
      go_ret3
      exact ⟨rfl, Below.refl _ _⟩
    · rw [VP.dat_ok s k L hrd hl]
      have HR := Lib.hid hrd
      have hsl := slice_at s k L (by omega)
      clear hrd
      go_enter Tryz.func126, Tryz.ntmps126
      go_wp2_with fail
      refine (refread_any s k 2 hs _).mono ?_
      rintro e w' ⟨rfl, rfl⟩
      rw [HR.out]
      go_wp2
      go_ret3
      exact ⟨rfl, Below.refl _ _⟩
  · rw [VP.dat_bad s at_ hc]
    obtain ⟨c, hcd⟩ : ∃ c, c = (VP.rd s at_ 2).2.2 := ⟨_, rfl⟩
    have hne : (c != 0) = true := by rw [hcd, bne_iff_ne]; exact hc
    obtain ⟨a, b, hab⟩ : ∃ a b, VP.rd s at_ 2 = (a, b, c) := ⟨_, _, by rw [hcd]⟩
    rw [← hcd]
    have HR := Lib.hid hab
    clear hcd hab hc
    go_enter Tryz.func126, Tryz.ntmps126
    go_wp2_with fail
    refine (refread_any s at_ 2 hs _).mono ?_
    rintro e w' ⟨rfl, rfl⟩
    rw [HR.out]
    go_wp2
    go_ret3
    exact ⟨rfl, Below.refl _ _⟩

end Go.Proofs.YtjajandjdclifaaGreatDoor
namespace Go.Proofs.YtjajandjdclifaaGreatDoor
open Go.RowKit

namespace TX
/-- The bytes of data. -/
def dataS (s : ByteArray) : ByteArray := if s.size ≤ 65535 then strOfNums [(s.size : Int) / 256, (s.size : Int) % 256] ++ s else ⟨#[]⟩
def dataC (s : ByteArray) : Int := if s.size ≤ 65535 then 0 else 149
/-- The bytes of a text, and the code beside them. -/
def putS (s : ByteArray) : ByteArray := if bad s = true then ⟨#[]⟩ else dataS s
def putC (s : ByteArray) : Int := if bad s = true then 129 else dataC s
/-- The text at a place, the place behind it, the code. -/
def getT (s : ByteArray) (at_ : Int) : ByteArray × Int × Int :=
  if (VP.dat s at_).2.2 ≠ 0 then (⟨#[]⟩, 0, (VP.dat s at_).2.2) else if bad (VP.dat s at_).1 = true then (⟨#[]⟩, 0, 129) else ((VP.dat s at_).1, (VP.dat s at_).2.1, 0)

theorem putC_le (s : ByteArray) : 0 ≤ putC s ∧ putC s ≤ 149 := by
  unfold putC dataC
  split
  · omega
  · split <;> omega
theorem getT_code (s : ByteArray) (at_ : Int) : 0 ≤ (getT s at_).2.2 ∧ (getT s at_).2.2 ≤ 242 := by
  have := VP.dat_code s at_
  unfold getT
  split
  · exact this
  · split
    · exact ⟨by decide, by decide⟩
    · exact ⟨Int.le_refl 0, (by decide : (0 : Int) ≤ 242)⟩
theorem dat_size (s : ByteArray) (at_ : Int) (b : Nat) (h : s.size ≤ b) : (VP.dat s at_).1.size ≤ b := by
  unfold VP.dat
  split
  · split
    · exact Nat.zero_le _
    · simp only [ByteArray.size_extract]; omega
  · exact Nat.zero_le _
end TX

set_option maxHeartbeats 400000 in
theorem tput_any (s : ByteArray) (hs : s.size ≤ 140737488351232) (w : World) (hT : Tabs w) :
    Calls Tryz.prog 118 #[.string s] w fun e w' => e = .returned (.tuple #[.string (TX.putS s), .int .u8 (TX.putC s)]) ∧ Below w.heap.size w w' := by
  have C := fault_any s hs w hT
  have D := fun w' => data_any s (by unfold maxLen; omega) w'
  rw [show (if s.size ≤ 65535 then strOfNums [(s.size : Int) / 256, (s.size : Int) % 256] ++ s else ⟨#[]⟩) = TX.dataS s from rfl, show (if s.size ≤ 65535 then (0 : Int) else 149) = TX.dataC s from rfl] at D
  unfold TX.putS TX.putC
  generalize TX.bad s = b at *
  generalize TX.flt s = f at *
  generalize TX.dataS s = ds at *
  generalize TX.dataC s = dc at *
  cases b
  · rw [if_neg (by decide), if_neg (by decide)]
    go_enter Tryz.func118, Tryz.ntmps118
    go_wp2_with fail
    refine C.mono ?_
    rintro e w1 ⟨rfl, b1⟩
    go_wp2_with fail
    refine (D _).mono ?_
    rintro e w2 ⟨rfl, b2⟩
    go_wp2
    go_ret2
    exact ⟨rfl, b1.trans (b2.mono b1.size)⟩
  · rw [if_pos rfl, if_pos rfl]
    clear D
    go_enter Tryz.func118, Tryz.ntmps118
    go_wp2_with fail
    refine C.mono ?_
    rintro e w1 ⟨rfl, b1⟩
    go_wp2
    go_ret2
    exact ⟨rfl, b1⟩

set_option maxHeartbeats 400000 in
theorem tget_any (s : ByteArray) (at_ : Int) (hs : s.size ≤ 140737488351232) (w : World) (hT : Tabs w) :
    Calls Tryz.prog 125 #[.string s, .int .i64 at_] w fun e w' => e = .returned (.tuple #[.string (TX.getT s at_).1, .int .i64 (TX.getT s at_).2.1, .int .u8 (TX.getT s at_).2.2]) ∧ Below w.heap.size w w' := by
  have C := getdata_any s at_ (by unfold maxLen; omega) w
  have D := fun w' (b : Below w.heap.size w w') => fault_any (VP.dat s at_).1 (TX.dat_size s at_ _ hs) w' (hT.below b)
  unfold TX.getT
  generalize VP.dat s at_ = d at *
  obtain ⟨x, to, c⟩ := d
  simp only at C D ⊢
  by_cases hc : c = 0
  · subst hc
    rw [if_neg (by decide)]
    generalize TX.bad x = b at *
    generalize TX.flt x = f at *
    cases b
    · rw [if_neg (by decide)]
      simp only
      go_enter Tryz.func125, Tryz.ntmps125
      go_wp2_with fail
      refine C.mono ?_
      rintro e w1 ⟨rfl, b1⟩
      go_wp2_with fail
      refine (D _ b1).mono ?_
      rintro e w2 ⟨rfl, b2⟩
      go_wp2
      go_ret3
      exact ⟨rfl, b1.trans (b2.mono b1.size)⟩
    · rw [if_pos rfl]
      simp only
      go_enter Tryz.func125, Tryz.ntmps125
      go_wp2_with fail
      refine C.mono ?_
      rintro e w1 ⟨rfl, b1⟩
      go_wp2_with fail
      refine (D _ b1).mono ?_
      rintro e w2 ⟨rfl, b2⟩
      go_wp2
      go_ret3
      exact ⟨rfl, b1.trans (b2.mono b1.size)⟩
  · rw [if_pos hc]
    have hne : (c != 0) = true := by rw [bne_iff_ne]; exact hc
    clear hc D
    simp only
    go_enter Tryz.func125, Tryz.ntmps125
    go_wp2_with fail
    refine C.mono ?_
    rintro e w1 ⟨rfl, b1⟩
    go_wp2
    go_ret3
    exact ⟨rfl, b1⟩

set_option maxHeartbeats 400000 in
theorem reftget_any (s : ByteArray) (at_ : Int) (hs : s.size ≤ 140737488351232) (w : World) :
    Calls Tryz.prog 110 #[.string s, .int .i64 at_] w fun e w' => e = .returned (.tuple #[.string (TX.getT s at_).1, .int .i64 (TX.getT s at_).2.1, .int .i64 (TX.getT s at_).2.2]) ∧ Below w.heap.size w w' := by
  have C := refgetdata_any s at_ (by unfold maxLen; omega) w
  have D := fun w' => reffault_any (VP.dat s at_).1 (TX.dat_size s at_ _ hs) w'
  unfold TX.getT
  generalize VP.dat s at_ = d at *
  obtain ⟨x, to, c⟩ := d
  simp only at C D ⊢
  by_cases hc : c = 0
  · subst hc
    rw [if_neg (by decide)]
    generalize TX.bad x = b at *
    generalize TX.flt x = f at *
    cases b
    · rw [if_neg (by decide)]
      simp only
      go_enter Tryz.func110, Tryz.ntmps110
      go_wp2_with fail
      refine C.mono ?_
      rintro e w1 ⟨rfl, b1⟩
      go_wp2_with fail
      refine (D _).mono ?_
      rintro e w2 ⟨rfl, rfl⟩
      go_wp2
      go_ret3
      exact ⟨rfl, b1⟩
    · rw [if_pos rfl]
      simp only
      go_enter Tryz.func110, Tryz.ntmps110
      go_wp2_with fail
      refine C.mono ?_
      rintro e w1 ⟨rfl, b1⟩
      go_wp2_with fail
      refine (D _).mono ?_
      rintro e w2 ⟨rfl, rfl⟩
      go_wp2
      go_ret3
      exact ⟨rfl, b1⟩
  · rw [if_pos hc]
    have hne : (c != 0) = true := by rw [bne_iff_ne]; exact hc
    clear hc D
    simp only
    go_enter Tryz.func110, Tryz.ntmps110
    go_wp2_with fail
    refine C.mono ?_
    rintro e w1 ⟨rfl, b1⟩
    go_wp2
    go_ret3
    exact ⟨rfl, b1⟩

end Go.Proofs.YtjajandjdclifaaGreatDoor
namespace Go.Proofs.YtjajandjdclifaaGreatDoor
namespace VP

/-- How many bytes a number takes (0: none). -/
def sz (n : Int) : Int :=
  if n < 0 ∨ 268435455 < n then 0 else if n < 128 then 1 else if n < 16384 then 2 else if n < 2097152 then 3 else 4

theorem sz_out {n : Int} (h : n < 0 ∨ 268435455 < n) : sz n = 0 := by unfold sz; rw [if_pos h]
theorem sz_1 {n : Int} (h0 : 0 ≤ n) (h1 : n < 128) : sz n = 1 := by unfold sz; rw [if_neg (by omega), if_pos (by omega)]
theorem sz_2 {n : Int} (h0 : 128 ≤ n) (h1 : n < 16384) : sz n = 2 := by unfold sz; rw [if_neg (by omega), if_neg (by omega), if_pos (by omega)]
theorem sz_3 {n : Int} (h0 : 16384 ≤ n) (h1 : n < 2097152) : sz n = 3 := by unfold sz; rw [if_neg (by omega), if_neg (by omega), if_neg (by omega), if_pos (by omega)]
theorem sz_4 {n : Int} (h0 : 2097152 ≤ n) (h1 : n ≤ 268435455) : sz n = 4 := by unfold sz; rw [if_neg (by omega), if_neg (by omega), if_neg (by omega), if_neg (by omega)]

theorem sz_div {m : Int} (h0 : 127 < m) (h1 : m ≤ 268435455) : sz (m / 128) + 1 = sz m := by
  rcases (show (m < 16384) ∨ (16384 ≤ m ∧ m < 2097152) ∨ (2097152 ≤ m) from by omega) with h | ⟨h, h'⟩ | h
  · rw [sz_1 (by omega) (by omega), sz_2 (by omega) h]; rfl
  · rw [sz_2 (by omega) (by omega), sz_3 h h']; rfl
  · rw [sz_3 (by omega) (by omega), sz_4 h h1]; rfl

/-- A number's bytes. -/
def putL (n : Int) : List Int :=
  if n < 0 ∨ 268435455 < n then [] else if n < 128 then [n] else if n < 16384 then [n % 128 + 128, n / 128]
  else if n < 2097152 then [n % 128 + 128, n / 128 % 128 + 128, n / 16384] else [n % 128 + 128, n / 128 % 128 + 128, n / 16384 % 128 + 128, n / 2097152]

/-- The code beside them. -/
def putC (n : Int) : Int := if n < 0 ∨ 268435455 < n then 129 else 0

theorem putL_out {n : Int} (h : n < 0 ∨ 268435455 < n) : putL n = [] := by unfold putL; rw [if_pos h]
theorem putL_1 {n : Int} (h0 : 0 ≤ n) (h1 : n < 128) : putL n = [n] := by unfold putL; rw [if_neg (by omega), if_pos (by omega)]
theorem putL_2 {n : Int} (h0 : 128 ≤ n) (h1 : n < 16384) : putL n = [n % 128 + 128, n / 128] := by unfold putL; rw [if_neg (by omega), if_neg (by omega), if_pos (by omega)]
theorem putL_3 {n : Int} (h0 : 16384 ≤ n) (h1 : n < 2097152) : putL n = [n % 128 + 128, n / 128 % 128 + 128, n / 16384] := by unfold putL; rw [if_neg (by omega), if_neg (by omega), if_neg (by omega), if_pos (by omega)]
theorem putL_4 {n : Int} (h0 : 2097152 ≤ n) (h1 : n ≤ 268435455) : putL n = [n % 128 + 128, n / 128 % 128 + 128, n / 16384 % 128 + 128, n / 2097152] := by unfold putL; rw [if_neg (by omega), if_neg (by omega), if_neg (by omega), if_neg (by omega)]
theorem putC_out {n : Int} (h : n < 0 ∨ 268435455 < n) : putC n = 129 := by unfold putC; rw [if_pos h]
theorem putC_le (n : Int) : 0 ≤ putC n ∧ putC n ≤ 129 := by unfold putC; split <;> omega
theorem putC_in {n : Int} (h0 : 0 ≤ n) (h1 : n ≤ 268435455) : putC n = 0 := by unfold putC; rw [if_neg (by omega)]

theorem sz_in {m : Int} (h0 : 0 ≤ m) (h1 : m ≤ 268435455) : 1 ≤ sz m ∧ sz m ≤ 4 := by
  unfold sz; rw [if_neg (by omega)]; repeat' split
  all_goals omega

/-- The number at the places from k + i on, n gathered already; at most f bytes more: the number, the place behind it, the code. -/
def getG (s : ByteArray) (k : Nat) : Nat → Nat → Int → Int × Int × Int
  | 0, _, _ => (0, 0, 129)
  | f + 1, i, n =>
    if h : k + i < s.size then
      if ((s[k + i]'h).toNat : Int) < 128 then
        if sz (n + (s[k + i]'h).toNat * 128 ^ i) = i + 1 then (n + (s[k + i]'h).toNat * 128 ^ i, (k : Int) + i + 1, 0) else (0, 0, 129)
      else getG s k f (i + 1) (n + (((s[k + i]'h).toNat : Int) - 128) * 128 ^ i)
    else (0, 0, 242)

/-- The number at a place of s, the place behind it, the code. -/
def get (s : ByteArray) (at_ : Int) : Int × Int × Int := if at_ < 0 ∨ (s.size : Int) < at_ then (0, 0, 128) else getG s at_.toNat 4 0 0

/-- A count from 0 to 4, as both kinds of number. -/
def Idx (i : Nat) (j : Int) : Prop := (i = 0 ∧ j = 0) ∨ (i = 1 ∧ j = 1) ∨ (i = 2 ∧ j = 2) ∨ (i = 3 ∧ j = 3) ∨ (i = 4 ∧ j = 4)

/-- The same with 128 to its power. -/
def IdxP (i : Nat) (j p : Int) : Prop := (i = 0 ∧ j = 0 ∧ p = 1) ∨ (i = 1 ∧ j = 1 ∧ p = 128) ∨ (i = 2 ∧ j = 2 ∧ p = 16384) ∨ (i = 3 ∧ j = 3 ∧ p = 2097152) ∨ (i = 4 ∧ j = 4 ∧ p = 268435456)

theorem sz_lt1 {m : Int} (h0 : 0 ≤ m) (h1 : m < 128) (h : ¬ sz m = 1) : sz m < 1 := by rw [sz_1 h0 h1] at *; omega
theorem sz_lt2 {m : Int} (h0 : 0 ≤ m) (h1 : m < 16384) (h : ¬ sz m = 2) : sz m < 2 := by
  by_cases g : m < 128
  · rw [sz_1 h0 g]; omega
  · rw [sz_2 (by omega) h1] at *; omega
theorem sz_lt3 {m : Int} (h0 : 0 ≤ m) (h1 : m < 2097152) (h : ¬ sz m = 3) : sz m < 3 := by
  by_cases g : m < 16384
  · by_cases g' : m < 128
    · rw [sz_1 h0 g']; omega
    · rw [sz_2 (by omega) g]; omega
  · rw [sz_3 (by omega) h1] at *; omega
theorem sz_lt4 {m : Int} (h0 : 0 ≤ m) (h1 : m < 268435456) (h : ¬ sz m = 4) : sz m < 4 := by
  have := sz_in h0 (by omega)
  omega

theorem getG_0 (s : ByteArray) (k i : Nat) (n : Int) : getG s k 0 i n = (0, 0, 129) := rfl
theorem getG_end (s : ByteArray) (k f i : Nat) (n : Int) (h : ¬ k + i < s.size) : getG s k (f + 1) i n = (0, 0, 242) := by rw [getG, dif_neg h]
theorem getG_last (s : ByteArray) (k f i : Nat) (n : Int) (h : k + i < s.size) (hb : ((s[k + i]'h).toNat : Int) < 128) (hz : sz (n + (s[k + i]'h).toNat * 128 ^ i) = i + 1) :
    getG s k (f + 1) i n = (n + (s[k + i]'h).toNat * 128 ^ i, (k : Int) + i + 1, 0) := by rw [getG, dif_pos h, if_pos hb, if_pos hz]
theorem getG_bad (s : ByteArray) (k f i : Nat) (n : Int) (h : k + i < s.size) (hb : ((s[k + i]'h).toNat : Int) < 128) (hz : ¬ sz (n + (s[k + i]'h).toNat * 128 ^ i) = i + 1) :
    getG s k (f + 1) i n = (0, 0, 129) := by rw [getG, dif_pos h, if_pos hb, if_neg hz]
theorem getG_more (s : ByteArray) (k f i : Nat) (n : Int) (h : k + i < s.size) (hb : ¬ ((s[k + i]'h).toNat : Int) < 128) :
    getG s k (f + 1) i n = getG s k f (i + 1) (n + (((s[k + i]'h).toNat : Int) - 128) * 128 ^ i) := by rw [getG, dif_pos h, if_neg hb]

theorem last0 (s : ByteArray) (k : Nat) (n : Int) (h : k < s.size) (hb : ((s[k]'h).toNat : Int) < 128) (hz : sz (n + ((s[k]'h).toNat : Int)) = 1) : getG s k 4 0 n = (n + ((s[k]'h).toNat : Int), (k : Int) + 1, 0) := by
  have e := getG_last s k 3 0 n h hb (by simpa using hz)
  rw [e]
  simp
  try omega
theorem bad0 (s : ByteArray) (k : Nat) (n : Int) (h : k < s.size) (hb : ((s[k]'h).toNat : Int) < 128) (hz : ¬ sz (n + ((s[k]'h).toNat : Int)) = 1) : getG s k 4 0 n = (0, 0, 129) :=
  getG_bad s k 3 0 n h hb (by simpa using hz)
theorem more0 (s : ByteArray) (k : Nat) (n : Int) (h : k < s.size) (hb : ¬ ((s[k]'h).toNat : Int) < 128) : getG s k 4 0 n = getG s k 3 1 (n + (((s[k]'h).toNat : Int) - 128)) := by
  have e := getG_more s k 3 0 n h hb
  rw [e]
  simp
theorem ends0 (s : ByteArray) (k : Nat) (n : Int) (h : ¬ k < s.size) : getG s k 4 0 n = (0, 0, 242) := getG_end s k 3 0 n h
theorem last1 (s : ByteArray) (k : Nat) (n : Int) (h : k + 1 < s.size) (hb : ((s[k + 1]'h).toNat : Int) < 128) (hz : sz (n + ((s[k + 1]'h).toNat : Int) * 128) = 2) : getG s k 3 1 n = (n + ((s[k + 1]'h).toNat : Int) * 128, (k : Int) + 1 + 1, 0) := by
  have e := getG_last s k 2 1 n h hb (by simpa using hz)
  rw [e]
  simp
  try omega
theorem bad1 (s : ByteArray) (k : Nat) (n : Int) (h : k + 1 < s.size) (hb : ((s[k + 1]'h).toNat : Int) < 128) (hz : ¬ sz (n + ((s[k + 1]'h).toNat : Int) * 128) = 2) : getG s k 3 1 n = (0, 0, 129) :=
  getG_bad s k 2 1 n h hb (by simpa using hz)
theorem more1 (s : ByteArray) (k : Nat) (n : Int) (h : k + 1 < s.size) (hb : ¬ ((s[k + 1]'h).toNat : Int) < 128) : getG s k 3 1 n = getG s k 2 2 (n + (((s[k + 1]'h).toNat : Int) - 128) * 128) := by
  have e := getG_more s k 2 1 n h hb
  rw [e]
  simp
theorem ends1 (s : ByteArray) (k : Nat) (n : Int) (h : ¬ k + 1 < s.size) : getG s k 3 1 n = (0, 0, 242) := getG_end s k 2 1 n h
theorem last2 (s : ByteArray) (k : Nat) (n : Int) (h : k + 2 < s.size) (hb : ((s[k + 2]'h).toNat : Int) < 128) (hz : sz (n + ((s[k + 2]'h).toNat : Int) * 16384) = 3) : getG s k 2 2 n = (n + ((s[k + 2]'h).toNat : Int) * 16384, (k : Int) + 2 + 1, 0) := by
  have e := getG_last s k 1 2 n h hb (by simpa using hz)
  rw [e]
  simp
  try omega
theorem bad2 (s : ByteArray) (k : Nat) (n : Int) (h : k + 2 < s.size) (hb : ((s[k + 2]'h).toNat : Int) < 128) (hz : ¬ sz (n + ((s[k + 2]'h).toNat : Int) * 16384) = 3) : getG s k 2 2 n = (0, 0, 129) :=
  getG_bad s k 1 2 n h hb (by simpa using hz)
theorem more2 (s : ByteArray) (k : Nat) (n : Int) (h : k + 2 < s.size) (hb : ¬ ((s[k + 2]'h).toNat : Int) < 128) : getG s k 2 2 n = getG s k 1 3 (n + (((s[k + 2]'h).toNat : Int) - 128) * 16384) := by
  have e := getG_more s k 1 2 n h hb
  rw [e]
  simp
theorem ends2 (s : ByteArray) (k : Nat) (n : Int) (h : ¬ k + 2 < s.size) : getG s k 2 2 n = (0, 0, 242) := getG_end s k 1 2 n h
theorem last3 (s : ByteArray) (k : Nat) (n : Int) (h : k + 3 < s.size) (hb : ((s[k + 3]'h).toNat : Int) < 128) (hz : sz (n + ((s[k + 3]'h).toNat : Int) * 2097152) = 4) : getG s k 1 3 n = (n + ((s[k + 3]'h).toNat : Int) * 2097152, (k : Int) + 3 + 1, 0) := by
  have e := getG_last s k 0 3 n h hb (by simpa using hz)
  rw [e]
  simp
  try omega
theorem bad3 (s : ByteArray) (k : Nat) (n : Int) (h : k + 3 < s.size) (hb : ((s[k + 3]'h).toNat : Int) < 128) (hz : ¬ sz (n + ((s[k + 3]'h).toNat : Int) * 2097152) = 4) : getG s k 1 3 n = (0, 0, 129) :=
  getG_bad s k 0 3 n h hb (by simpa using hz)
theorem more3 (s : ByteArray) (k : Nat) (n : Int) (h : k + 3 < s.size) (hb : ¬ ((s[k + 3]'h).toNat : Int) < 128) : getG s k 1 3 n = getG s k 0 4 (n + (((s[k + 3]'h).toNat : Int) - 128) * 2097152) := by
  have e := getG_more s k 0 3 n h hb
  rw [e]
  simp
theorem ends3 (s : ByteArray) (k : Nat) (n : Int) (h : ¬ k + 3 < s.size) : getG s k 1 3 n = (0, 0, 242) := getG_end s k 0 3 n h

theorem get_out (s : ByteArray) (at_ : Int) (h : at_ < 0 ∨ (s.size : Int) < at_) : get s at_ = (0, 0, 128) := by unfold get; rw [if_pos h]
theorem get_in (s : ByteArray) (k : Nat) (h : k ≤ s.size) : get s (k : Int) = getG s k 4 0 0 := by unfold get; rw [if_neg (by omega)]; simp

end VP
end Go.Proofs.YtjajandjdclifaaGreatDoor
namespace Go.Proofs.YtjajandjdclifaaGreatDoor
namespace PR

/-- In how many bytes the numbers of a kind stand. -/
def wd (k : Int) : Int := if k = 1 then 1 else if k = 2 then 2 else if k = 3 then 4 else 0
/-- The bytes of a pair, and the code beside them. -/
def pairC (s t : ByteArray) : Int := if TX.putC s ≠ 0 then TX.putC s else TX.putC t
def pairS (s t : ByteArray) : ByteArray := if TX.putC s ≠ 0 then ⟨#[]⟩ else if TX.putC t ≠ 0 then ⟨#[]⟩ else TX.putS s ++ TX.putS t
/-- The bytes of a value, and the code beside them. -/
def valS (p : Pr) : ByteArray := if kd p.id = 4 then strOfNums (VP.putL p.n) else if kd p.id = 5 then TX.dataS p.s else if kd p.id = 6 then TX.putS p.s else if kd p.id = 7 then pairS p.s p.t else strOfNums (VP.fixL (wd (kd p.id)) p.n)
def valC (p : Pr) : Int := if kd p.id = 4 then VP.putC p.n else if kd p.id = 5 then TX.dataC p.s else if kd p.id = 6 then TX.putC p.s else if kd p.id = 7 then pairC p.s p.t else VP.fixC (wd (kd p.id)) p.n
/-- Has one ahead the identifier, which isn't 38? -/
def dup (l : List Pr) (id : Int) : Bool := !(id == 38) && decide (0 ≤ ix id 0 l)
/-- What speaks against an identifier. -/
def idC (l : List Pr) (id : Int) : Int := if kd id = 0 then 129 else if dup l id = true then 130 else 0
/-- The code of one behind those ahead, its bytes. -/
def oneC (l : List Pr) (p : Pr) : Int := if idC l p.id ≠ 0 then idC l p.id else valC p
def oneS (p : Pr) : ByteArray := strOfNums (VP.putL p.id) ++ valS p
/-- From the property at k on: the code, if one has one. -/
def restC (l : List Pr) (k : Nat) : List Pr → Int
  | [] => 0
  | p :: r => if oneC (l.take k) p ≠ 0 then oneC (l.take k) p else restC l (k + 1) r
/-- The bytes of all. -/
def allS : List Pr → ByteArray
  | [] => ⟨#[]⟩
  | p :: r => oneS p ++ allS r
def putC (l : List Pr) : Int := if 64 < l.length then 149 else if restC l 0 l ≠ 0 then restC l 0 l else 0
def putS (l : List Pr) : ByteArray := if 64 < l.length then ⟨#[]⟩ else if restC l 0 l ≠ 0 then ⟨#[]⟩ else strOfNums (VP.putL (allS l).size) ++ allS l

theorem dataS_size (s : ByteArray) : (TX.dataS s).size ≤ 65537 := by
  unfold TX.dataS
  split
  · rw [ByteArray.size_append, strOfNums_size]; simp; omega
  · exact Nat.zero_le _
theorem putS_size (s : ByteArray) : (TX.putS s).size ≤ 65537 := by
  unfold TX.putS
  split
  · exact Nat.zero_le _
  · exact dataS_size s
theorem putL_len (n : Int) : (VP.putL n).length ≤ 4 := by
  unfold VP.putL
  repeat' split
  all_goals simp
theorem fixL_len (w n : Int) : (VP.fixL w n).length ≤ 4 := by
  unfold VP.fixL
  repeat' split
  all_goals simp
theorem pairS_size (s t : ByteArray) : (pairS s t).size ≤ 131074 := by
  unfold pairS
  split
  · exact Nat.zero_le _
  · split
    · exact Nat.zero_le _
    · rw [ByteArray.size_append]; have := putS_size s; have := putS_size t; omega
theorem valS_size (p : Pr) : (valS p).size ≤ 131074 := by
  unfold valS
  repeat' split
  · rw [strOfNums_size]; have := putL_len p.n; omega
  · have := dataS_size p.s; omega
  · have := putS_size p.s; omega
  · exact pairS_size _ _
  · rw [strOfNums_size]; have := fixL_len (wd (kd p.id)) p.n; omega
theorem oneS_size (p : Pr) : (oneS p).size ≤ 131078 := by
  unfold oneS
  rw [ByteArray.size_append, strOfNums_size]; have := valS_size p; have := putL_len p.id; omega
theorem allS_size : ∀ l : List Pr, (allS l).size ≤ 131078 * l.length
  | [] => Nat.zero_le _
  | p :: r => by
    rw [allS, ByteArray.size_append]
    have := allS_size r; have := oneS_size p
    simp only [List.length_cons]; omega
theorem pairC_le (s t : ByteArray) : 0 ≤ pairC s t ∧ pairC s t ≤ 149 := by
  have := TX.putC_le s; have := TX.putC_le t
  unfold pairC; split <;> omega
theorem dataC_le (s : ByteArray) : 0 ≤ TX.dataC s ∧ TX.dataC s ≤ 149 := by unfold TX.dataC; split <;> omega
theorem valC_le (p : Pr) : 0 ≤ valC p ∧ valC p ≤ 149 := by
  have := VP.putC_le p.n; have := dataC_le p.s; have := TX.putC_le p.s; have := pairC_le p.s p.t; have := VP.fixC_le (wd (kd p.id)) p.n
  unfold valC
  repeat' split
  all_goals omega
theorem idC_le (l : List Pr) (id : Int) : 0 ≤ idC l id ∧ idC l id ≤ 149 := by
  unfold idC
  repeat' split
  all_goals omega
theorem oneC_le (l : List Pr) (p : Pr) : 0 ≤ oneC l p ∧ oneC l p ≤ 149 := by
  have := idC_le l p.id; have := valC_le p
  unfold oneC; split <;> omega
theorem rest_at {l r : List Pr} {k : Nat} {p : Pr} (h : r[k]? = some p) (he : oneC (l.take k) p = 0) : restC l k (r.drop k) = restC l (k + 1) (r.drop (k + 1)) := by
  rw [prop_drop h, restC, if_neg (by simp [he])]
theorem rest_stop {l r : List Pr} {k : Nat} {p : Pr} (h : r[k]? = some p) (he : oneC (l.take k) p ≠ 0) : restC l k (r.drop k) = oneC (l.take k) p := by
  rw [prop_drop h, restC, if_pos he]
theorem rest_end (l r : List Pr) : restC l r.length (r.drop r.length) = 0 := by rw [List.drop_length]; rfl
theorem all_snoc (l : List Pr) (p : Pr) : allS (l ++ [p]) = allS l ++ oneS p := by
  induction l with
  | nil => exact ByteArray.ext (by simp [allS, ByteArray.data_append])
  | cons a l ih => rw [List.cons_append, allS, ih, allS, ByteArray.append_assoc]
end PR
end Go.Proofs.YtjajandjdclifaaGreatDoor
namespace Go.Proofs.YtjajandjdclifaaGreatDoor
namespace PK

/-- The identifiers of the properties that packets of a kind (or a will, of 0) may have. -/
def ids (k : Int) : List Int :=
  if k = 0 then [1, 2, 3, 8, 9, 24, 38] else if k = 1 then [17, 21, 22, 23, 25, 33, 34, 38, 39]
  else if k = 2 then [17, 18, 19, 21, 22, 26, 28, 31, 33, 34, 36, 37, 38, 39, 40, 41, 42] else if k = 3 then [1, 2, 3, 8, 9, 11, 35, 38]
  else if k = 4 ∨ k = 5 ∨ k = 6 ∨ k = 7 ∨ k = 9 ∨ k = 11 then [31, 38] else if k = 8 then [11, 38] else if k = 10 then [38]
  else if k = 14 then [17, 28, 31, 38] else if k = 15 then [21, 22, 31, 38] else []
/-- May a packet of the kind have the property? -/
def al (k id : Int) : Bool := PR.has id (ids k)
theorem ids_len (k : Int) : (ids k).length ≤ 17 := by
  unfold ids
  repeat' split
  all_goals decide
theorem ids_out {k : Int} (h : k < 0 ∨ 15 < k) : ids k = [] := by
  unfold ids
  rw [if_neg (by omega), if_neg (by omega), if_neg (by omega), if_neg (by omega), if_neg (by omega), if_neg (by omega), if_neg (by omega), if_neg (by omega), if_neg (by omega)]
theorem has_app (n : Int) : ∀ a b : List Int, PR.has n (a ++ b) = (PR.has n a || PR.has n b)
  | [], b => by simp [PR.has]
  | x :: a, b => by rw [List.cons_append, PR.has, PR.has, has_app n a b, Bool.or_assoc]
theorem has_more (n : Int) : PR.has n [36, 37, 38, 39, 40, 41, 42] = (decide (36 ≤ n) && decide (n ≤ 42)) := by
  rw [Bool.eq_iff_iff]
  simp only [PR.has, Bool.or_eq_true, beq_iff_eq, Bool.and_eq_true, decide_eq_true_eq, Bool.or_false]
  omega
theorem al_2 (id : Int) : al 2 id = (PR.has id [17, 18, 19, 21, 22, 26, 28, 31, 33, 34] || (decide (36 ≤ id) && decide (id ≤ 42))) := by
  rw [← has_more, ← has_app]; rfl
theorem has_2 (n a b : Int) : PR.has n [a, b] = (n == a || n == b) := by
  rw [Bool.eq_iff_iff]
  simp only [PR.has, Bool.or_eq_true, beq_iff_eq, Bool.or_false]
  omega
theorem has_1 (n a : Int) : PR.has n [a] = (n == a) := by
  rw [Bool.eq_iff_iff]
  simp only [PR.has, beq_iff_eq, Bool.or_false]
  omega
/-- Where a number stands first. -/
def ixn (n : Int) (k : Nat) : List Int → Int
  | [] => -1
  | a :: l => if (n == a) = true then (k : Int) else ixn n (k + 1) l
theorem ixn_has (n : Int) : ∀ (l : List Int) (k : Nat), decide (0 ≤ ixn n k l) = PR.has n l
  | [], k => rfl
  | a :: l, k => by
    unfold ixn PR.has
    by_cases h : n = a
    · subst h; simp
    · rw [if_neg (by simp [h]), ixn_has n l (k + 1)]
      have : (a == n) = false := by rw [beq_eq_false_iff_ne]; exact fun e => h e.symm
      rw [this]; rfl
theorem ixn_yes {n x : Int} {l : List Int} {k : Nat} (h : l[k]? = some x) (he : (n == x) = true) : ixn n k (l.drop k) = k := by rw [PR.drop_at h, ixn, if_pos he]
theorem ixn_no {n x : Int} {l : List Int} {k : Nat} (h : l[k]? = some x) (he : (n == x) = false) : ixn n k (l.drop k) = ixn n (k + 1) (l.drop (k + 1)) := by rw [PR.drop_at h, ixn, if_neg (by rw [he]; decide)]
theorem ixn_end (n : Int) (l : List Int) : ixn n l.length (l.drop l.length) = -1 := by rw [List.drop_length]; rfl
end PK
end Go.Proofs.YtjajandjdclifaaGreatDoor
namespace Go.Proofs.YtjajandjdclifaaGreatDoor

/-- One filter of a Subscribe. -/
structure Sb where
  f : ByteArray
  q : Int
  nl : Bool
  ap : Bool
  h : Int
/-- A packet as plain data. -/
structure Pk where
  kind : Int
  dup : Bool
  ret : Bool
  qos : Int
  id : Int
  topic : ByteArray
  pay : ByteArray
  code : Int
  codes : List Int
  props : List Pr
  client : ByteArray
  clean : Bool
  keep : Int
  hasWill : Bool
  wtopic : ByteArray
  wpay : ByteArray
  wqos : Int
  wret : Bool
  wprops : List Pr
  hasUser : Bool
  hasPass : Bool
  user : ByteArray
  pass : ByteArray
  session : Bool
  subs : List Sb
  filters : List ByteArray

namespace PK
/-- Bytes so far, and the first code; beside a code the bytes count for nothing. -/
def ad (o : ByteArray × Int) (s : ByteArray) (c : Int) : ByteArray × Int := if o.2 ≠ 0 then o else if c ≠ 0 then (⟨#[]⟩, c) else (o.1 ++ s, 0)
def rf (o : ByteArray × Int) (c : Int) : ByteArray × Int := ad o ⟨#[]⟩ c
def nm (o : ByteArray × Int) (w n : Int) : ByteArray × Int := ad o (strOfNums (VP.fixL w n)) (VP.fixC w n)
def tx (o : ByteArray × Int) (s : ByteArray) : ByteArray × Int := ad o (TX.putS s) (TX.putC s)
def dt (o : ByteArray × Int) (s : ByteArray) : ByteArray × Int := ad o (TX.dataS s) (TX.dataC s)
/-- May a packet of the kind have all of these? -/
def alAll (k : Int) (l : List Pr) : Bool := l.all fun p => al k p.id
def pr (o : ByteArray × Int) (k : Int) (l : List Pr) : ByteArray × Int := if alAll k l = true then ad o (PR.putS l) (PR.putC l) else rf (ad o (PR.putS l) (PR.putC l)) 130
def idd (o : ByteArray × Int) (n : Int) : ByteArray × Int := nm (if n < 1 ∨ 65535 < n then rf o 130 else o) 2 n
def isQ (n : Int) : Bool := decide (0 ≤ n) && decide (n ≤ 2)
def fl (b : Bool) (n : Int) : Int := if b = true then n else 0
def subN (s : Sb) : Int := s.q + fl s.nl 4 + fl s.ap 8 + 16 * s.h
def sub (o : ByteArray × Int) (s : Sb) : ByteArray × Int := if isQ s.q && isQ s.h then nm (tx o s.f) 1 (subN s) else rf (tx o s.f) 129
def head (o : ByteArray × Int) (p : Pk) : ByteArray × Int := pr (idd o p.id) p.kind p.props
def ending (o : ByteArray × Int) (p : Pk) : ByteArray × Int := if p.code = 0 ∧ p.props = [] then o else if p.props = [] then nm o 1 p.code else pr (nm o 1 p.code) p.kind p.props
/-- What a list has: at least one, at most 64. -/
def eachO {α : Type} (o : ByteArray × Int) (l : List α) (f : ByteArray × Int → α → ByteArray × Int) : ByteArray × Int := if l.length = 0 then rf o 130 else if 64 < l.length then rf o 149 else l.foldl f o
def cflagsN (p : Pk) : Int := fl p.clean 2 + fl p.hasPass 64 + fl p.hasUser 128 + if p.hasWill = true then 4 + 8 * p.wqos + fl p.wret 32 else 0
def cflags (o : ByteArray × Int) (p : Pk) : ByteArray × Int := if p.hasWill && !isQ p.wqos then rf o 129 else nm o 1 (cflagsN p)
def conn1 (o : ByteArray × Int) (p : Pk) : ByteArray × Int := tx (pr (nm (cflags (nm (tx o ⟨#[77, 81, 84, 84]⟩) 1 5) p) 2 p.keep) 1 p.props) p.client
def conn2 (o : ByteArray × Int) (p : Pk) : ByteArray × Int := if p.hasWill = true then dt (tx (pr o 0 p.wprops) p.wtopic) p.wpay else o
def conn3 (o : ByteArray × Int) (p : Pk) : ByteArray × Int := if p.hasUser = true then tx o p.user else o
def conn4 (o : ByteArray × Int) (p : Pk) : ByteArray × Int := if p.hasPass = true then dt o p.pass else o
def conn (o : ByteArray × Int) (p : Pk) : ByteArray × Int := conn4 (conn3 (conn2 (conn1 o p) p) p) p
def pub1 (o : ByteArray × Int) (p : Pk) : ByteArray × Int := if 0 < p.qos then idd (tx o p.topic) p.id else tx o p.topic
def pub (o : ByteArray × Int) (p : Pk) : ByteArray × Int := ad (pr (pub1 o p) p.kind p.props) p.pay 0
/-- What follows the length. -/
def parts (o : ByteArray × Int) (p : Pk) : ByteArray × Int :=
  if p.kind = 1 then conn o p
  else if p.kind = 2 then pr (nm (nm o 1 (fl p.session 1)) 1 p.code) p.kind p.props
  else if p.kind = 3 then pub o p
  else if p.kind = 8 then eachO (head o p) p.subs sub
  else if p.kind = 10 then eachO (head o p) p.filters tx
  else if p.kind = 9 ∨ p.kind = 11 then eachO (head o p) p.codes (fun o c => nm o 1 c)
  else if p.kind = 4 ∨ p.kind = 5 ∨ p.kind = 6 ∨ p.kind = 7 then ending (idd o p.id) p
  else if p.kind = 14 ∨ p.kind = 15 then ending o p else o
def canPub (p : Pk) : Bool := isQ p.qos && (decide (0 < p.qos) || !p.dup)
/-- The flags of the first byte. -/
def flagsN (p : Pk) : Int := if p.kind = 3 then fl p.dup 8 + 2 * p.qos + fl p.ret 1 else if p.kind = 6 ∨ p.kind = 8 ∨ p.kind = 10 then 2 else 0
def flagsO (p : Pk) : ByteArray × Int := if p.kind = 3 ∧ canPub p = false then (⟨#[]⟩, 129) else (⟨#[]⟩, 0)
def bodyO (p : Pk) : ByteArray × Int := parts (flagsO p) p
def putC (p : Pk) : Int := if p.kind < 1 ∨ 15 < p.kind then 129 else if (bodyO p).2 ≠ 0 then (bodyO p).2 else if 65536 < (bodyO p).1.size then 149 else 0
def putS (p : Pk) : ByteArray := if putC p ≠ 0 then ⟨#[]⟩ else strOfNums (VP.fixL 1 (16 * p.kind + flagsN p)) ++ strOfNums (VP.putL (bodyO p).1.size) ++ (bodyO p).1

theorem ad_bad {o : ByteArray × Int} (h : o.2 ≠ 0) (s : ByteArray) (c : Int) : ad o s c = o := by unfold ad; rw [if_pos h]
theorem ad_code {o : ByteArray × Int} (h : o.2 = 0) (s : ByteArray) {c : Int} (hc : c ≠ 0) : ad o s c = (⟨#[]⟩, c) := by unfold ad; rw [if_neg (by simp [h]), if_pos hc]
theorem ad_ok {o : ByteArray × Int} (h : o.2 = 0) (s : ByteArray) : ad o s 0 = (o.1 ++ s, 0) := by unfold ad; rw [if_neg (by simp [h]), if_neg (by simp)]
theorem ad_nil (o : ByteArray × Int) : ad o ⟨#[]⟩ 0 = o := by
  unfold ad
  split
  · rfl
  · rename_i h
    have h' : o.2 = 0 := by simpa using h
    rw [if_neg (by simp)]
    refine Prod.ext ?_ h'.symm
    exact ByteArray.ext (by simp [ByteArray.data_append])
theorem ad_keep (o : ByteArray × Int) (s : ByteArray) (c : Int) (h : o.2 ≠ 0) : (ad o s c).2 ≠ 0 := by rw [ad_bad h]; exact h
theorem nm_bad {o : ByteArray × Int} (h : o.2 ≠ 0) (w n : Int) : nm o w n = o := ad_bad h _ _
theorem rf_bad {o : ByteArray × Int} (h : o.2 ≠ 0) (c : Int) : rf o c = o := ad_bad h _ _
theorem rf_code (o : ByteArray × Int) {c : Int} (hc : c ≠ 0) : (rf o c).2 ≠ 0 := by
  unfold rf
  by_cases h : o.2 = 0
  · rw [ad_code h _ hc]; exact hc
  · rw [ad_bad h]; exact h
theorem nm_rf (o : ByteArray × Int) {c : Int} (hc : c ≠ 0) (w n : Int) : nm (rf o c) w n = rf o c := nm_bad (rf_code o hc) w n
end PK
end Go.Proofs.YtjajandjdclifaaGreatDoor
namespace Go.Proofs.YtjajandjdclifaaGreatDoor
open Go.RowKit

theorem in_new (n : Int) (l : List Int) (w : World) (hl : l.length ≤ 100) :
    Calls Tryz.prog 143 #[.int .i64 n, .slice (some ⟨w.heap.size, 0, none⟩) l.length l.length] (w.alloc (.cells (l.map (Value.int .i64)).toArray 3)) fun e w' => e = .returned (.bool (PR.has n l)) ∧ w.alloc (.cells (l.map (Value.int .i64)).toArray 3) = w' :=
  in_any n w.heap.size l.length l _ hl (nums_new w l _)
def row1 : Obj := .cells #[.int .i64 1, .int .i64 23, .int .i64 25, .int .i64 36, .int .i64 37, .int .i64 40, .int .i64 41, .int .i64 42] 3
theorem in_1 (n : Int) (w : World) (g : Nat) (hg : g = w.heap.size) : Calls Tryz.prog 143 #[.int .i64 n, .slice (some ⟨g, 0, none⟩) 8 8] (w.alloc (.cells #[.int .i64 1, .int .i64 23, .int .i64 25, .int .i64 36, .int .i64 37, .int .i64 40, .int .i64 41, .int .i64 42] 3)) fun e w' => e = .returned (.bool (PR.has n PR.l1)) ∧ w.alloc row1 = w' := by
  subst hg; exact in_new n PR.l1 w (by decide)
def row2 : Obj := .cells #[.int .i64 19, .int .i64 33, .int .i64 34, .int .i64 35] 3
theorem in_2 (n : Int) (w : World) (g : Nat) (hg : g = w.heap.size) : Calls Tryz.prog 143 #[.int .i64 n, .slice (some ⟨g, 0, none⟩) 4 4] (w.alloc (.cells #[.int .i64 19, .int .i64 33, .int .i64 34, .int .i64 35] 3)) fun e w' => e = .returned (.bool (PR.has n PR.l2)) ∧ w.alloc row2 = w' := by
  subst hg; exact in_new n PR.l2 w (by decide)
def row3 : Obj := .cells #[.int .i64 2, .int .i64 17, .int .i64 24, .int .i64 39] 3
theorem in_3 (n : Int) (w : World) (g : Nat) (hg : g = w.heap.size) : Calls Tryz.prog 143 #[.int .i64 n, .slice (some ⟨g, 0, none⟩) 4 4] (w.alloc (.cells #[.int .i64 2, .int .i64 17, .int .i64 24, .int .i64 39] 3)) fun e w' => e = .returned (.bool (PR.has n PR.l3)) ∧ w.alloc row3 = w' := by
  subst hg; exact in_new n PR.l3 w (by decide)
def row5 : Obj := .cells #[.int .i64 9, .int .i64 22] 3
theorem in_5 (n : Int) (w : World) (g : Nat) (hg : g = w.heap.size) : Calls Tryz.prog 143 #[.int .i64 n, .slice (some ⟨g, 0, none⟩) 2 2] (w.alloc (.cells #[.int .i64 9, .int .i64 22] 3)) fun e w' => e = .returned (.bool (PR.has n PR.l5)) ∧ w.alloc row5 = w' := by
  subst hg; exact in_new n PR.l5 w (by decide)
def row6 : Obj := .cells #[.int .i64 3, .int .i64 8, .int .i64 18, .int .i64 21, .int .i64 26, .int .i64 28, .int .i64 31] 3
theorem in_6 (n : Int) (w : World) (g : Nat) (hg : g = w.heap.size) : Calls Tryz.prog 143 #[.int .i64 n, .slice (some ⟨g, 0, none⟩) 7 7] (w.alloc (.cells #[.int .i64 3, .int .i64 8, .int .i64 18, .int .i64 21, .int .i64 26, .int .i64 28, .int .i64 31] 3)) fun e w' => e = .returned (.bool (PR.has n PR.l6)) ∧ w.alloc row6 = w' := by
  subst hg; exact in_new n PR.l6 w (by decide)

set_option maxRecDepth 100000 in
set_option maxHeartbeats 4000000 in
theorem rkind_any (id : Int) (w : World) : Calls Tryz.prog 128 #[.int .i64 id] w fun e w' => e = .returned (.int .i64 (PR.kd id)) ∧ Below w.heap.size w w' := by
  have C1 := Lib.hid (in_1 id); have C2 := Lib.hid (in_2 id); have C3 := Lib.hid (in_3 id); have C5 := Lib.hid (in_5 id); have C6 := Lib.hid (in_6 id)
  have h4 : (id == 11) = true ∧ id = 11 ∨ (id == 11) = false ∧ ¬ id = 11 := by
    by_cases h : id = 11
    · exact .inl ⟨by simp [h], h⟩
    · exact .inr ⟨by simp [h], h⟩
  have h7 : (id == 38) = true ∧ id = 38 ∨ (id == 38) = false ∧ ¬ id = 38 := by
    by_cases h : id = 38
    · exact .inl ⟨by simp [h], h⟩
    · exact .inr ⟨by simp [h], h⟩
  have HB : Hid (Below w.heap.size w (((((w.alloc row1).alloc row2).alloc row3).alloc row5).alloc row6)) :=
    (((((Below.refl w.heap.size w).alloc (by simp) _).alloc (by simp) _).alloc (by simp; omega) _).alloc (by simp; omega) _).alloc (by simp; omega) _
  have hk : Hid (PR.kd id = if PR.has id PR.l1 = true then 1 else if PR.has id PR.l2 = true then 2 else if PR.has id PR.l3 = true then 3 else if id = 11 then 4 else if PR.has id PR.l5 = true then 5 else if PR.has id PR.l6 = true then 6 else if id = 38 then 7 else 0) := rfl
  generalize PR.kd id = kk at *
  generalize PR.has id PR.l1 = b1 at *
  generalize PR.has id PR.l2 = b2 at *
  generalize PR.has id PR.l3 = b3 at *
  generalize PR.has id PR.l5 = b5 at *
  generalize PR.has id PR.l6 = b6 at *
  have H4 := Lib.hid h4; have H7 := Lib.hid h7
  clear h4 h7
  go_enter Tryz.func128, Tryz.ntmps128
  go_wp2_with fail
  (with_reducible refine (C1.out _ _ (by simp)).mono ?_)
  rintro e w1 ⟨rfl, rfl⟩
  go_wp2_with fail
  (with_reducible refine (C2.out _ _ (by simp)).mono ?_)
  rintro e w1 ⟨rfl, rfl⟩
  go_wp2_with fail
  (with_reducible refine (C3.out _ _ (by simp)).mono ?_)
  rintro e w1 ⟨rfl, rfl⟩
  go_wp2_with fail
  (with_reducible refine (C5.out _ _ (by simp)).mono ?_)
  rintro e w1 ⟨rfl, rfl⟩
  go_wp2_with fail
  (with_reducible refine (C6.out _ _ (by simp)).mono ?_)
  rintro e w1 ⟨rfl, rfl⟩
  clear C1 C2 C3 C5 C6
  cases b1
  · cases b2
    · cases b3
      · rcases H4.out with ⟨h4, g4⟩ | ⟨h4, g4⟩
        · have E := Lib.hid (hk.out.trans (by simp only [g4]; rfl : _ = (4 : Int)))
          clear g4
          go_wp2
          go_ret
          exact ⟨by rw [E.out]; rfl, HB.out⟩
        · cases b5
          · cases b6
            · rcases H7.out with ⟨h7, g7⟩ | ⟨h7, g7⟩
              · have E := Lib.hid (hk.out.trans (by rw [if_neg (by decide), if_neg (by decide), if_neg (by decide), if_neg g4, if_neg (by decide), if_neg (by decide), if_pos g7] : _ = (7 : Int)))
                clear g4 g7
                go_wp2
                go_ret
                exact ⟨by rw [E.out]; rfl, HB.out⟩
              · have E := Lib.hid (hk.out.trans (by rw [if_neg (by decide), if_neg (by decide), if_neg (by decide), if_neg g4, if_neg (by decide), if_neg (by decide), if_neg g7] : _ = (0 : Int)))
                clear g4 g7
                go_wp2
                go_ret
                exact ⟨by rw [E.out]; rfl, HB.out⟩
            · have E := Lib.hid (hk.out.trans (by rw [if_neg (by decide), if_neg (by decide), if_neg (by decide), if_neg g4, if_neg (by decide), if_pos rfl] : _ = (6 : Int)))
              clear g4
              go_wp2
              go_ret
              exact ⟨by rw [E.out]; rfl, HB.out⟩
          · have E := Lib.hid (hk.out.trans (by rw [if_neg (by decide), if_neg (by decide), if_neg (by decide), if_neg g4, if_pos rfl] : _ = (5 : Int)))
            clear g4
            go_wp2
            go_ret
            exact ⟨by rw [E.out]; rfl, HB.out⟩
      · have E := Lib.hid (hk.out.trans (by rfl : _ = (3 : Int)))
        go_wp2
        go_ret
        exact ⟨by rw [E.out]; rfl, HB.out⟩
    · have E := Lib.hid (hk.out.trans (by rfl : _ = (2 : Int)))
      go_wp2
      go_ret
      exact ⟨by rw [E.out]; rfl, HB.out⟩
  · have E := Lib.hid (hk.out.trans (by rfl : _ = (1 : Int)))
    go_wp2
    go_ret
    exact ⟨by rw [E.out]; rfl, HB.out⟩
end Go.Proofs.YtjajandjdclifaaGreatDoor
namespace Go.Proofs.YtjajandjdclifaaGreatDoor
open Go.RowKit

theorem size_any (n : Int) (w : World) :
    Calls Tryz.prog 58 #[.int .i64 n] w fun e w' => e = .returned (.int .i64 (VP.sz n)) ∧ w = w' := by
  rcases (show n < 0 ∨ (0 ≤ n ∧ n < 128) ∨ (128 ≤ n ∧ n < 16384) ∨ (16384 ≤ n ∧ n < 2097152) ∨ (2097152 ≤ n ∧ n ≤ 268435455) ∨ 268435455 < n from by omega) with h | ⟨h, h'⟩ | ⟨h, h'⟩ | ⟨h, h'⟩ | ⟨h, h'⟩ | h
  · rw [VP.sz_out (.inl h)]
    go_enter Tryz.func58, Tryz.ntmps58
    go_wp2
    go_ret
    exact ⟨rfl, rfl⟩
  · rw [VP.sz_1 h h']
    go_enter Tryz.func58, Tryz.ntmps58
    go_wp2
    go_ret
    exact ⟨rfl, rfl⟩
  · rw [VP.sz_2 h h']
    go_enter Tryz.func58, Tryz.ntmps58
    go_wp2
    go_ret
    exact ⟨rfl, rfl⟩
  · rw [VP.sz_3 h h']
    go_enter Tryz.func58, Tryz.ntmps58
    go_wp2
    go_ret
    exact ⟨rfl, rfl⟩
  · rw [VP.sz_4 h h']
    go_enter Tryz.func58, Tryz.ntmps58
    go_wp2
    go_ret
    exact ⟨rfl, rfl⟩
  · rw [VP.sz_out (.inr h)]
    go_enter Tryz.func58, Tryz.ntmps58
    go_wp2
    go_ret
    exact ⟨rfl, rfl⟩

theorem refsize_any (n : Int) (w : World) :
    Calls Tryz.prog 64 #[.int .i64 n] w fun e w' => e = .returned (.int .i64 (VP.sz n)) ∧ w = w' := by
  rcases (show n < 0 ∨ (0 ≤ n ∧ n ≤ 268435455) ∨ 268435455 < n from by omega) with h | ⟨h, h'⟩ | h
  · rw [VP.sz_out (.inl h)]
    go_enter Tryz.func64, Tryz.ntmps64
    go_wp2
    go_ret
    exact ⟨rfl, rfl⟩
  · go_enter Tryz.func64, Tryz.ntmps64
    go_wp2
    go_loop [0, 3] (fun a b => ∃ m k : Int, 0 ≤ m ∧ m ≤ 268435455 ∧ 1 ≤ k ∧ k - 1 + VP.sz m = VP.sz n ∧ a = .int .i64 m ∧ b = .int .i64 k) (fun a _ => (intOf a).toNat)
    case atStart => exact ⟨n, 1, h, h', by omega, by omega, rfl, rfl⟩
    case round =>
      obtain ⟨m, k, hm, hm', hk, hs, rfl, rfl⟩ := hrel
      have hn := VP.sz_in h h'
      have hz := VP.sz_in hm hm'
      have hk4 : k ≤ 4 := by omega
      have HS := Lib.hid hs
      clear hs
      by_cases hlt : 127 < m
      · have HD := Lib.hid (VP.sz_div hlt hm')
        go_wp2
        go_round
        case rel => exact ⟨m / 128, k + 1, by omega, by omega, by omega, by have := HS.out; have := HD.out; omega, rfl, rfl⟩
        case measure => simp [intOf]; omega
      · have HD := Lib.hid (VP.sz_1 hm (show m < 128 by omega))
        go_wp2
        go_ret
        exact ⟨ret_int (by have := HS.out; have := HD.out; omega), rfl⟩
  · rw [VP.sz_out (.inr h)]
    go_enter Tryz.func64, Tryz.ntmps64
    go_wp2
    go_ret
    exact ⟨rfl, rfl⟩

end Go.Proofs.YtjajandjdclifaaGreatDoor
namespace Go.Proofs.YtjajandjdclifaaGreatDoor
open Go.RowKit

set_option maxHeartbeats 400000 in
theorem put_any (n : Int) (w : World) :
    Calls Tryz.prog 45 #[.int .i64 n] w fun e w' => e = .returned (.tuple #[.string (strOfNums (VP.putL n)), .int .u8 (VP.putC n)]) ∧ Below w.heap.size w w' := by
  rcases (show n < 0 ∨ (0 ≤ n ∧ n < 128) ∨ (128 ≤ n ∧ n < 16384) ∨ (16384 ≤ n ∧ n < 2097152) ∨ (2097152 ≤ n ∧ n ≤ 268435455) ∨ 268435455 < n from by omega) with h | ⟨h, h'⟩ | ⟨h, h'⟩ | ⟨h, h'⟩ | ⟨h, h'⟩ | h
  · have hs := Lib.hid (VP.sz_out (.inl h))
    rw [VP.putL_out (.inl h), VP.putC_out (.inl h)]
    go_enter Tryz.func45, Tryz.ntmps45
    go_wp2_with fail
    refine (size_any n _).mono ?_
    rintro e w' ⟨rfl, rfl⟩
    rw [hs.out]
    go_wp2
    go_ret2
    exact ⟨rfl, Below.refl _ _⟩
  · have hs := Lib.hid (VP.sz_1 h h')
    have hl := Lib.hid (VP.putL_1 h h')
    have hc := Lib.hid (VP.putC_in h (by omega))
    have hmk := make1
    have hcv := conv1
    go_enter Tryz.func45, Tryz.ntmps45
    go_wp2_with fail
    refine (size_any n _).mono ?_
    rintro e w' ⟨rfl, rfl⟩
    rw [hs.out]
    go_wp2
    refine wp_loop_rounds 2 ?_
    iterate 2 (rw [rounds_succ]; go_wp2)
    go_ret2
    refine ⟨ret_bytes ?_ hc.out.symm, (Below.refl _ _).alloc (Nat.le_refl _) _⟩
    rw [hl.out, u8_or128 _ (by omega) (by omega), u8_and127 _ (by omega) (by omega)]
    simp only [List.cons.injEq, and_true]
    omega
  · have hs := Lib.hid (VP.sz_2 h h')
    have hl := Lib.hid (VP.putL_2 h h')
    have hc := Lib.hid (VP.putC_in (n := n) (by omega) (by omega))
    have hmk := make2
    have hcv := conv2
    go_enter Tryz.func45, Tryz.ntmps45
    go_wp2_with fail
    refine (size_any n _).mono ?_
    rintro e w' ⟨rfl, rfl⟩
    rw [hs.out]
    go_wp2
    refine wp_loop_rounds 3 ?_
    iterate 3 (rw [rounds_succ]; go_wp2)
    go_ret2
    refine ⟨ret_bytes ?_ hc.out.symm, (Below.refl _ _).alloc (Nat.le_refl _) _⟩
    rw [hl.out, u8_or128 (n % 256) (by omega) (by omega), u8_or128 (n / 128) (by omega) (by omega), u8_and127 _ (by omega) (by omega)]
    simp only [List.cons.injEq, and_true]
    omega
  · have hs := Lib.hid (VP.sz_3 h h')
    have hl := Lib.hid (VP.putL_3 h h')
    have hc := Lib.hid (VP.putC_in (n := n) (by omega) (by omega))
    have hmk := make3
    have hcv := conv3
    go_enter Tryz.func45, Tryz.ntmps45
    go_wp2_with fail
    refine (size_any n _).mono ?_
    rintro e w' ⟨rfl, rfl⟩
    rw [hs.out]
    go_wp2
    refine wp_loop_rounds 4 ?_
    iterate 4 (rw [rounds_succ]; go_wp2)
    go_ret2
    refine ⟨ret_bytes ?_ hc.out.symm, (Below.refl _ _).alloc (Nat.le_refl _) _⟩
    rw [hl.out, u8_or128 (n % 256) (by omega) (by omega), u8_or128 (n / 128 % 256) (by omega) (by omega), u8_or128 (n / 16384) (by omega) (by omega), u8_and127 _ (by omega) (by omega)]
    simp only [List.cons.injEq, and_true]
    omega
  · have hs := Lib.hid (VP.sz_4 h h')
    have hl := Lib.hid (VP.putL_4 h h')
    have hc := Lib.hid (VP.putC_in (n := n) (by omega) (by omega))
    have hmk := make4
    have hcv := conv4
    go_enter Tryz.func45, Tryz.ntmps45
    go_wp2_with fail
    refine (size_any n _).mono ?_
    rintro e w' ⟨rfl, rfl⟩
    rw [hs.out]
    go_wp2
    refine wp_loop_rounds 5 ?_
    iterate 5 (rw [rounds_succ]; go_wp2)
    go_ret2
    refine ⟨ret_bytes ?_ hc.out.symm, (Below.refl _ _).alloc (Nat.le_refl _) _⟩
    rw [hl.out, u8_or128 (n % 256) (by omega) (by omega), u8_or128 (n / 128 % 256) (by omega) (by omega), u8_or128 (n / 16384 % 256) (by omega) (by omega), u8_or128 (n / 2097152) (by omega) (by omega), u8_and127 _ (by omega) (by omega)]
    simp only [List.cons.injEq, and_true]
    omega
  · have hs := Lib.hid (VP.sz_out (.inr h))
    rw [VP.putL_out (.inr h), VP.putC_out (.inr h)]
    go_enter Tryz.func45, Tryz.ntmps45
    go_wp2_with fail
    refine (size_any n _).mono ?_
    rintro e w' ⟨rfl, rfl⟩
    rw [hs.out]
    go_wp2
    go_ret2
    exact ⟨rfl, Below.refl _ _⟩

end Go.Proofs.YtjajandjdclifaaGreatDoor
namespace Go.Proofs.YtjajandjdclifaaGreatDoor
open Go.RowKit Go.Sort

theorem width_any (k : Int) (w : World) : Calls Tryz.prog 158 #[.int .i64 k] w fun e w' => e = .returned (.int .i64 (PR.wd k)) ∧ w = w' := by
  by_cases h1 : k = 1
  · subst h1
    go_enter Tryz.func158, Tryz.ntmps158
    go_wp2
    go_ret
    exact ⟨rfl, rfl⟩
  · by_cases h2 : k = 2
    · subst h2
      go_enter Tryz.func158, Tryz.ntmps158
      go_wp2
      go_ret
      exact ⟨rfl, rfl⟩
    · by_cases h3 : k = 3
      · subst h3
        go_enter Tryz.func158, Tryz.ntmps158
        go_wp2
        go_ret
        exact ⟨rfl, rfl⟩
      · have E : Hid (PR.wd k = 0) := Lib.hid (by unfold PR.wd; rw [if_neg h1, if_neg h2, if_neg h3])
        have e1 : (k == 1) = false := by rw [beq_eq_false_iff_ne]; exact h1
        have e2 : (k == 2) = false := by rw [beq_eq_false_iff_ne]; exact h2
        have e3 : (k == 3) = false := by rw [beq_eq_false_iff_ne]; exact h3
        clear h1 h2 h3
        go_enter Tryz.func158, Tryz.ntmps158
        go_wp2
        go_ret
        exact ⟨by rw [E.out]; rfl, rfl⟩

/-- The document's width, of a kind of numbers. -/
theorem rwidth_any (k : Int) (hk : k = 1 ∨ k = 2 ∨ k = 3) (w : World) : Calls Tryz.prog 144 #[.int .i64 k] w fun e w' => e = .returned (.int .i64 (PR.wd k)) ∧ w = w' := by
  rcases hk with rfl | rfl | rfl
  all_goals
    go_enter Tryz.func144, Tryz.ntmps144
    go_wp2
    go_ret
    exact ⟨rfl, rfl⟩

set_option maxHeartbeats 1000000 in
theorem pair_any (s t : ByteArray) (hs : s.size ≤ 140737488351232) (ht : t.size ≤ 140737488351232) (w : World) (hT : Tabs w) :
    Calls Tryz.prog 157 #[.string s, .string t] w fun e w' => e = .returned (.tuple #[.string (PR.pairS s t), .int .u8 (PR.pairC s t)]) ∧ Below w.heap.size w w' := by
  have C1 := Lib.hid (tput_any s hs w hT)
  have C2 : Hid (∀ W', Below w.heap.size w W' → _) := fun W' hW => tput_any t ht W' (hT.below hW)
  have z1 := PR.putS_size s
  have z2 := PR.putS_size t
  unfold PR.pairS PR.pairC
  clear hT
  generalize TX.putS s = S1 at *
  generalize TX.putS t = S2 at *
  generalize TX.putC s = c1 at *
  generalize TX.putC t = c2 at *
  by_cases h1 : c1 = 0
  · subst h1
    by_cases h2 : c2 = 0
    · subst h2
      simp only [ne_eq, not_true_eq_false, if_false]
      go_enter Tryz.func157, Tryz.ntmps157
      go_wp2_with fail
      refine C1.out.mono ?_
      rintro e w1 ⟨rfl, b1⟩
      have B1 := Lib.hid b1
      clear b1
      go_wp2_with fail
      refine (C2.out _ B1.out).mono ?_
      rintro e w2 ⟨rfl, b2⟩
      have B2 := Lib.hid b2
      clear b2
      go_wp2
      go_ret2
      exact ⟨rfl, B1.out.trans (B2.out.mono B1.out.size)⟩
    · have hne : (c2 != 0) = true := by rw [bne_iff_ne]; exact h2
      simp only [ne_eq, not_true_eq_false, if_false, h2, not_false_eq_true, if_true]
      clear h2
      go_enter Tryz.func157, Tryz.ntmps157
      go_wp2_with fail
      refine C1.out.mono ?_
      rintro e w1 ⟨rfl, b1⟩
      have B1 := Lib.hid b1
      clear b1
      go_wp2_with fail
      refine (C2.out _ B1.out).mono ?_
      rintro e w2 ⟨rfl, b2⟩
      have B2 := Lib.hid b2
      clear b2
      go_wp2
      go_ret2
      exact ⟨rfl, B1.out.trans (B2.out.mono B1.out.size)⟩
  · have hne : (c1 != 0) = true := by rw [bne_iff_ne]; exact h1
    simp only [ne_eq, h1, not_false_eq_true, if_true]
    clear h1
    go_enter Tryz.func157, Tryz.ntmps157
    go_wp2_with fail
    refine C1.out.mono ?_
    rintro e w1 ⟨rfl, b1⟩
    have B1 := Lib.hid b1
    clear b1
    go_wp2
    go_ret2
    exact ⟨rfl, B1.out⟩

def valO (t : TypeId) (p : Pr) : Obj := .cells #[.int .i64 p.id, .int .i64 p.n, .string p.s, .string p.t] t
theorem kd_parts (k : Int) (h : 0 ≤ k ∧ k ≤ 7) : k = 4 ∨ k = 5 ∨ k = 6 ∨ k = 7 ∨ (k = 0 ∨ k = 1 ∨ k = 2 ∨ k = 3) := by omega

set_option maxRecDepth 100000 in
set_option maxHeartbeats 4000000 in
theorem value_any (p : Pr) (hs : p.s.size ≤ 140737488351232 ∧ p.t.size ≤ 140737488351232) (hn : -9223372036854775808 ≤ p.n ∧ p.n ≤ 9223372036854775807) (w : World) (hT : Tabs w) :
    Calls Tryz.prog 148 #[.agg #[.int .i64 p.id, .int .i64 p.n, .string p.s, .string p.t]] w fun e w' => e = .returned (.tuple #[.string (PR.valS p), .int .u8 (PR.valC p)]) ∧ Below w.heap.size w w' := by
  have hbl := (Below.refl w.heap.size w).alloc (Nat.le_refl _) (.cells #[.int .i64 p.id, .int .i64 p.n, .string p.s, .string p.t] 163)
  have CK := Lib.hid (kind_any p.id)
  have hT1 := hT.below hbl
  have hk := kd_parts _ (PR.kd_le p.id)
  have C4 := Lib.hid (fun W => put_any p.n W)
  have C5 : Hid (∀ W, Calls Tryz.prog 133 #[.string p.s] W fun e w' => e = .returned (.tuple #[.string (TX.dataS p.s), .int .u8 (TX.dataC p.s)]) ∧ Below W.heap.size W w') := fun W => data_any p.s (by have := hs.1; unfold maxLen; omega) W
  have C6 := Lib.hid (tput_any p.s hs.1 _ hT1)
  have C7 := Lib.hid (pair_any p.s p.t hs.1 hs.2 _ hT1)
  have C8 := Lib.hid (fun k W => fixed_any k p.n hn.1 hn.2 W)
  have C9 := Lib.hid width_any
  have hvS : PR.valS p = if PR.kd p.id = 4 then strOfNums (VP.putL p.n) else if PR.kd p.id = 5 then TX.dataS p.s else if PR.kd p.id = 6 then TX.putS p.s else if PR.kd p.id = 7 then PR.pairS p.s p.t else strOfNums (VP.fixL (PR.wd (PR.kd p.id)) p.n) := rfl
  have hvC : PR.valC p = if PR.kd p.id = 4 then VP.putC p.n else if PR.kd p.id = 5 then TX.dataC p.s else if PR.kd p.id = 6 then TX.putC p.s else if PR.kd p.id = 7 then PR.pairC p.s p.t else VP.fixC (PR.wd (PR.kd p.id)) p.n := rfl
  obtain ⟨id, n, s, t⟩ := p
  simp only at hs hn hbl CK hk C4 C5 C6 C7 C8 hvS hvC hT1 ⊢
  rw [hvS, hvC]
  have Hb := Lib.hid hbl
  clear hvS hvC hT hbl hT1 hs hn
  generalize PR.kd id = k at *
  rcases hk with rfl | rfl | rfl | rfl | hk
  · rw [if_pos rfl, if_pos rfl]
    go_enter Tryz.func148, Tryz.ntmps148
    go_wp2_with fail
    refine (CK.out _).mono ?_
    rintro e w1 ⟨rfl, rfl⟩
    go_wp2_with fail
    refine (C4.out _).mono ?_
    rintro e w1 ⟨rfl, b1⟩
    have B1 := Lib.hid b1
    clear b1
    go_wp2
    go_ret2
    exact ⟨rfl, Hb.out.trans (B1.out.mono (by simp))⟩
  · simp only [show ((5 : Int) = 4) = False by decide, if_true, if_false]
    generalize TX.dataS s = ds at *
    generalize TX.dataC s = dc at *
    go_enter Tryz.func148, Tryz.ntmps148
    go_wp2_with fail
    refine (CK.out _).mono ?_
    rintro e w1 ⟨rfl, rfl⟩
    go_wp2_with fail
    refine (C5.out _).mono ?_
    rintro e w1 ⟨rfl, b1⟩
    have B1 := Lib.hid b1
    clear b1
    go_wp2
    go_ret2
    exact ⟨rfl, Hb.out.trans (B1.out.mono (by simp))⟩
  · simp only [show ((6 : Int) = 4) = False by decide, show ((6 : Int) = 5) = False by decide, if_true, if_false]
    go_enter Tryz.func148, Tryz.ntmps148
    go_wp2_with fail
    refine (CK.out _).mono ?_
    rintro e w1 ⟨rfl, rfl⟩
    go_wp2_with fail
    refine C6.out.mono ?_
    rintro e w1 ⟨rfl, b1⟩
    have B1 := Lib.hid b1
    clear b1
    go_wp2
    go_ret2
    exact ⟨rfl, Hb.out.trans (B1.out.mono (by simp))⟩
  · simp only [show ((7 : Int) = 4) = False by decide, show ((7 : Int) = 5) = False by decide, show ((7 : Int) = 6) = False by decide, if_true, if_false]
    go_enter Tryz.func148, Tryz.ntmps148
    go_wp2_with fail
    refine (CK.out _).mono ?_
    rintro e w1 ⟨rfl, rfl⟩
    go_wp2_with fail
    refine C7.out.mono ?_
    rintro e w1 ⟨rfl, b1⟩
    have B1 := Lib.hid b1
    clear b1
    go_wp2
    go_ret2
    exact ⟨rfl, Hb.out.trans (B1.out.mono (by simp))⟩
  · rw [if_neg (by omega), if_neg (by omega), if_neg (by omega), if_neg (by omega), if_neg (by omega), if_neg (by omega), if_neg (by omega), if_neg (by omega)]
    have e4 : (k == 4) = false := by rw [beq_eq_false_iff_ne]; omega
    have e5 : (k == 5) = false := by rw [beq_eq_false_iff_ne]; omega
    have e6 : (k == 6) = false := by rw [beq_eq_false_iff_ne]; omega
    have e7 : (k == 7) = false := by rw [beq_eq_false_iff_ne]; omega
    have C8k := Lib.hid (C8.out (PR.wd k))
    have C9k := Lib.hid (C9.out k)
    clear hk C4 C5 C6 C7 C8 C9
    generalize PR.wd k = wk at *
    generalize strOfNums (VP.fixL wk n) = FS at *
    generalize VP.fixC wk n = FC at *
    go_enter Tryz.func148, Tryz.ntmps148
    go_wp2_with fail
    refine (CK.out _).mono ?_
    rintro e w1 ⟨rfl, rfl⟩
    have hcell : (w.alloc (.cells #[.int .i64 id, .int .i64 n, .string s, .string t] 163)).cell? ⟨w.heap.size, 1, none⟩ = some (.int .i64 n) := by rw [World.cell?_alloc_at _ _ _ _ rfl]; rfl
    go_wp2_with fail
    generalize w.alloc (.cells #[.int .i64 id, .int .i64 n, .string s, .string t] 163) = W at *
    have Q1 : Hid (∀ d os, Calls Tryz.prog 158 #[.int .i64 k] (grow (redrawn W d) os) fun e w'' => e = .returned (.int .i64 wk) ∧ ∃ p : Regrown, w'' = grow (redrawn W p.d) p.os) := fun d os => (C9k.out _).mono fun _ _ ⟨he, hw⟩ => ⟨he, ⟨d, os⟩, hw.symm⟩
    have Q2 : Hid (∀ d os, Calls Tryz.prog 44 #[.int .i64 wk, .int .i64 n] (grow (redrawn W d) os) fun e w'' => e = .returned (.tuple #[.string FS, .int .u8 FC]) ∧ ∃ p : Regrown, w'' = grow (redrawn W p.d) p.os) := fun d os => Calls.regrown_of (C8k.out _)
    have r1 := fun d os => cell_regrown hcell d os
    clear C8k C9k hcell CK
    refine wp_region_quiet_below (by kernel_rfl) (by kernel_rfl) ?_
    repeat (first | go_big_quiet_step (first | exact Q1.out _ _ | exact Q2.out _ _) | quiet_step (first | exact Q1.out _ _ | exact Q2.out _ _))
    refine wpQuiet_nil ?_
    intro _ hw'
    obtain ⟨⟨dq, osq⟩, hw''⟩ := hw'
    subst hw''
    go_wp2
    go_ret2
    exact ⟨rfl, Hb.out.trans ((below_regrown W dq osq).mono Hb.out.size)⟩
end Go.Proofs.YtjajandjdclifaaGreatDoor
