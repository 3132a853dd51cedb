/- Plain numbers behind characters: how many bytes a character takes, where the characters of bytes end, how many there are. No program is named here.; The library's decoder, laid at this program; the tables that it reads stay as they are.; What the given rows list of the library's tables is what the decoder asks of memory.; Properties as plain data: their kinds. No function of the program is named here.; The kinds of identifiers: the program's and the document's.; Rows of properties in memory.; indexOf: where the first property of an identifier stands.; One element more behind a row of the call's own.; The library's contracts for strings.Builder, at this program.; The writer of a packet: a strings.Builder and a code in one struct.; strings.Clone answers the same bytes.; The program's functions on texts: where the characters end and how many there are, Fault, Runes, Cut.; New slices of one to four bytes: made, and turned into strings; bits of bytes.; The document's functions on texts answer the same plain numbers. -/
import Derived.Lib.DecodeN
import Derived.Test.YtjajandjdclifaaGreatDoorProg
import Derived.Shelf.Unicode.DecodeAny
import Derived.WalkKit
import Derived.Below
import Derived.Lib.Hide
import Derived.KernelRfl
import Derived.Test.YtjajandjdclifaaGreatDoorRows
import Derived.Lib.LaidU8
import Derived.MakeChecks
import Derived.Maps.AppendAt
import Derived.Deep.AppendLies
import Derived.Deep.Fields
import Derived.Lib.Strings
import Derived.Shelf.Strings.Builder1
import Derived.Lib.OthersKept
import Derived.Lib.AppendStr
import Derived.Lib.UnsafeStr
import Derived.Lib.Builder
import Derived.Deep.DeepAppendWide
import Derived.Room.AppendFits
import Derived.Laws.Externs
import Derived.Shelf.Strconv.Clone
import Derived.Laws.Strings3
import Derived.Laws.BytesArg
import Derived.Laws.BitsAllLaws
import Derived.Laws.Bits128
import Derived.WalkLawsBesides
namespace Go.Proofs.YtjajandjdclifaaGreatDoor
namespace TX

/-- How many bytes the character takes that n bytes begin with, by the first four of them (0: there is none). -/
def cl (n b0 b1 b2 b3 : Nat) : Nat :=
  if 1 ≤ b0 ∧ b0 ≤ 127 then 1
  else if (194 ≤ b0 ∧ b0 ≤ 223) ∧ (1 < n ∧ 128 ≤ b1 ∧ b1 ≤ 191) then 2
  else if (224 ≤ b0 ∧ b0 ≤ 239) ∧ (1 < n ∧ 128 ≤ b1 ∧ b1 ≤ 191) ∧ (2 < n ∧ 128 ≤ b2 ∧ b2 ≤ 191) then
    (if (b0 = 224 ∧ b1 < 160) ∨ (b0 = 237 ∧ 159 < b1) then 0 else 3)
  else if (240 ≤ b0 ∧ b0 ≤ 244) ∧ (1 < n ∧ 128 ≤ b1 ∧ b1 ≤ 191) ∧ (2 < n ∧ 128 ≤ b2 ∧ b2 ≤ 191) ∧ (3 < n ∧ 128 ≤ b3 ∧ b3 ≤ 191) then
    (if (b0 = 240 ∧ b1 < 144) ∨ (b0 = 244 ∧ 143 < b1) then 0 else 4)
  else 0

theorem cl_le (n b0 b1 b2 b3 : Nat) (hn : 1 ≤ n) : cl n b0 b1 b2 b3 ≤ n ∧ cl n b0 b1 b2 b3 ≤ 4 := by
  unfold cl
  repeat' split
  all_goals omega

/-- Only bytes that stand there are looked at. -/
theorem cl_congr (n b0 b1 b2 b3 c1 c2 c3 : Nat) (h1 : 1 < n → b1 = c1) (h2 : 2 < n → b2 = c2) (h3 : 3 < n → b3 = c3) : cl n b0 b1 b2 b3 = cl n b0 c1 c2 c3 := by
  unfold cl
  by_cases g1 : 1 < n
  · rw [h1 g1]
    by_cases g2 : 2 < n
    · rw [h2 g2]
      by_cases g3 : 3 < n
      · rw [h3 g3]
      · simp [g3]
    · have g3 : ¬ 3 < n := by omega
      simp [g2]
  · have g2 : ¬ 2 < n := by omega
    simp [g1]

/-- Of fewer bytes: the same character, if it stands there whole, else none. -/
theorem cl_cut (n m b0 b1 b2 b3 : Nat) (hn : 1 ≤ n) (h : n ≤ m) : cl n b0 b1 b2 b3 = if cl m b0 b1 b2 b3 ≤ n then cl m b0 b1 b2 b3 else 0 := by
  unfold cl
  repeat' split
  all_goals omega

set_option maxRecDepth 100000 in
set_option maxHeartbeats 4000000 in
/-- It is what the decoder tells. -/
theorem cl_dec (n b0 b1 b2 b3 : Nat) (h0 : b0 < 256) (h1 : b1 < 256) (h2 : b2 < 256) (h3 : b3 < 256) :
    (cl n b0 b1 b2 b3 = 0 ∧ ((Lib.decodeN n b0 b1 b2 b3).1 = 0 ∨ ((Lib.decodeN n b0 b1 b2 b3).1 = 65533 ∧ (Lib.decodeN n b0 b1 b2 b3).2 = 1))) ∨
    (cl n b0 b1 b2 b3 ≠ 0 ∧ (Lib.decodeN n b0 b1 b2 b3).2 = cl n b0 b1 b2 b3 ∧ 0 < (Lib.decodeN n b0 b1 b2 b3).1 ∧ (Lib.decodeN n b0 b1 b2 b3).1 ≤ 1114111 ∧ ((Lib.decodeN n b0 b1 b2 b3).1 = 65533 → 1 < cl n b0 b1 b2 b3)) := by
  unfold Lib.decodeN
  by_cases g1 : b0 < 128
  · simp only [g1, if_true, cl]
    by_cases g2 : 1 ≤ b0
    · rw [if_pos (by omega)]; right; omega
    · left
      rw [if_neg (by omega), if_neg (by omega), if_neg (by omega), if_neg (by omega)]
      omega
  · rw [if_neg g1]
    by_cases g2 : b0 / 32 = 6 ∧ (1 < n ∧ b1 / 64 = 2)
    · rw [if_pos g2]
      by_cases g3 : b0 % 32 * 64 + b1 % 64 ≥ 128
      · rw [if_pos g3]
        have e : cl n b0 b1 b2 b3 = 2 := by unfold cl; rw [if_neg (by omega), if_pos (by omega)]
        rw [e]; right; refine ⟨by omega, rfl, ?_, ?_, fun _ => by omega⟩ <;> simp only <;> omega
      · rw [if_neg g3]
        have e : cl n b0 b1 b2 b3 = 0 := by unfold cl; rw [if_neg (by omega), if_neg (by omega), if_neg (by omega), if_neg (by omega)]
        rw [e]; left; simp
    · rw [if_neg g2]
      by_cases g4 : b0 / 16 = 14 ∧ (1 < n ∧ b1 / 64 = 2) ∧ (2 < n ∧ b2 / 64 = 2)
      · rw [if_pos g4]
        have e : cl n b0 b1 b2 b3 = if (b0 = 224 ∧ b1 < 160) ∨ (b0 = 237 ∧ 159 < b1) then 0 else 3 := by unfold cl; rw [if_neg (by omega), if_neg (by omega), if_pos (by omega)]
        rw [e]
        split
        · rename_i g5
          rw [if_neg (by omega)]; left; simp
        · rename_i g5
          rw [if_pos (by omega)]; right; refine ⟨by omega, rfl, ?_, ?_, fun _ => by omega⟩ <;> simp only <;> omega
      · rw [if_neg g4]
        by_cases g6 : b0 / 8 = 30 ∧ (1 < n ∧ b1 / 64 = 2) ∧ (2 < n ∧ b2 / 64 = 2) ∧ (3 < n ∧ b3 / 64 = 2)
        · rw [if_pos g6]
          by_cases g8 : b0 ≤ 244
          · have e : cl n b0 b1 b2 b3 = if (b0 = 240 ∧ b1 < 144) ∨ (b0 = 244 ∧ 143 < b1) then 0 else 4 := by unfold cl; rw [if_neg (by omega), if_neg (by omega), if_neg (by omega), if_pos (by omega)]
            rw [e]
            split
            · rename_i g5
              rw [if_neg (by omega)]; left; simp
            · rename_i g5
              rw [if_pos (by omega)]; right; refine ⟨by omega, rfl, ?_, ?_, fun _ => by omega⟩ <;> simp only <;> omega
          · have e : cl n b0 b1 b2 b3 = 0 := by unfold cl; rw [if_neg (by omega), if_neg (by omega), if_neg (by omega), if_neg (by omega)]
            rw [e, if_neg (by omega)]; left; simp
        · rw [if_neg g6]
          have e : cl n b0 b1 b2 b3 = 0 := by unfold cl; rw [if_neg (by omega), if_neg (by omega), if_neg (by omega), if_neg (by omega)]
          rw [e]; left; simp

/-- The byte at a place (0 beyond the end). -/
def by_ (s : ByteArray) (i : Nat) : Nat := (s.get! i).toNat

theorem by_lt (s : ByteArray) (i : Nat) : by_ s i < 256 := (s.get! i).toNat_lt

theorem by_get (s : ByteArray) (i : Nat) (h : i < s.size) : by_ s i = (s[i]'h).toNat := by
  unfold by_
  cases s with
  | mk d => rw [show (ByteArray.mk d).get! i = d[i]'h from getElem!_pos d i h]; rfl

theorem by_out (s : ByteArray) (i : Nat) (h : ¬ i < s.size) : by_ s i = 0 := by
  unfold by_
  cases s with
  | mk d => rw [show (ByteArray.mk d).get! i = default from getElem!_neg d i h]; rfl

/-- How many bytes the character at a place takes (0: there is none). -/
def chr (s : ByteArray) (i : Nat) : Nat := if i < s.size then cl (s.size - i) (by_ s i) (by_ s (i + 1)) (by_ s (i + 2)) (by_ s (i + 3)) else 0

theorem chr_lt {s : ByteArray} {i : Nat} (h : chr s i ≠ 0) : i < s.size := by
  unfold chr at h
  split at h
  · assumption
  · exact absurd rfl h

theorem chr_le (s : ByteArray) (i : Nat) (h : i ≤ s.size) : i + chr s i ≤ s.size := by
  unfold chr
  split
  · have := cl_le (s.size - i) (by_ s i) (by_ s (i + 1)) (by_ s (i + 2)) (by_ s (i + 3)) (by omega)
    omega
  · omega

theorem chr_four (s : ByteArray) (i : Nat) : chr s i ≤ 4 := by
  unfold chr
  split
  · exact (cl_le (s.size - i) (by_ s i) (by_ s (i + 1)) (by_ s (i + 2)) (by_ s (i + 3)) (by omega)).2
  · omega

theorem chr_end (s : ByteArray) (i : Nat) (h : s.size ≤ i) : chr s i = 0 := by
  unfold chr
  rw [if_neg (by omega)]

/-- Where the characters from a place on end. -/
def fin (s : ByteArray) (i : Nat) : Nat := if _h : chr s i = 0 then i else fin s (i + chr s i)
termination_by s.size - i
decreasing_by have := chr_lt _h; omega

/-- How many they are. -/
def cnt (s : ByteArray) (i : Nat) : Nat := if _h : chr s i = 0 then 0 else 1 + cnt s (i + chr s i)
termination_by s.size - i
decreasing_by have := chr_lt _h; omega

theorem fin_no {s : ByteArray} {i : Nat} (h : chr s i = 0) : fin s i = i := by rw [fin, dif_pos h]
theorem fin_yes {s : ByteArray} {i : Nat} (h : chr s i ≠ 0) : fin s i = fin s (i + chr s i) := by rw [fin, dif_neg h]
theorem cnt_no {s : ByteArray} {i : Nat} (h : chr s i = 0) : cnt s i = 0 := by rw [cnt, dif_pos h]
theorem cnt_yes {s : ByteArray} {i : Nat} (h : chr s i ≠ 0) : cnt s i = 1 + cnt s (i + chr s i) := by rw [cnt, dif_neg h]

theorem fin_le (s : ByteArray) (i : Nat) (h : i ≤ s.size) : i ≤ fin s i ∧ fin s i ≤ s.size := by
  fun_induction fin s i with
  | case1 i hc => omega
  | case2 i hc ih =>
    have := ih (chr_le s i h)
    omega

theorem cnt_le (s : ByteArray) (i : Nat) (h : i ≤ s.size) : i + cnt s i ≤ s.size := by
  fun_induction cnt s i with
  | case1 i hc => omega
  | case2 i hc ih =>
    have := ih (chr_le s i h)
    omega

theorem fin_end {s : ByteArray} {i : Nat} (h : s.size ≤ i) : fin s i = i := fin_no (chr_end s i h)

/-! ### parts of bytes -/

theorem by_extract (s : ByteArray) (a b j : Nat) (hb : b ≤ s.size) (h : a + j < b) : by_ (s.extract a b) j = by_ s (a + j) := by
  rw [by_get _ _ (by rw [ByteArray.size_extract]; omega), by_get _ _ (by omega)]
  rw [ByteArray.getElem_extract]

/-- The characters of a part: those that stand in it whole. -/
theorem chr_extract (s : ByteArray) (a b j : Nat) (hb : b ≤ s.size) (h : a + j ≤ b) : chr (s.extract a b) j = if a + j + chr s (a + j) ≤ b then chr s (a + j) else 0 := by
  have hz : (s.extract a b).size = b - a := by rw [ByteArray.size_extract]; omega
  by_cases hlt : a + j < b
  · have e1 : chr (s.extract a b) j = cl (b - a - j) (by_ (s.extract a b) j) (by_ (s.extract a b) (j + 1)) (by_ (s.extract a b) (j + 2)) (by_ (s.extract a b) (j + 3)) := by
      unfold chr; rw [if_pos (by omega), hz]
    have e2 : chr s (a + j) = cl (s.size - (a + j)) (by_ s (a + j)) (by_ s (a + j + 1)) (by_ s (a + j + 2)) (by_ s (a + j + 3)) := by
      unfold chr; rw [if_pos (by omega)]
    rw [e1, by_extract s a b j hb hlt, cl_congr (b - a - j) _ _ _ _ (by_ s (a + j + 1)) (by_ s (a + j + 2)) (by_ s (a + j + 3))
      (fun g => by rw [by_extract s a b (j + 1) hb (by omega)]; rfl) (fun g => by rw [by_extract s a b (j + 2) hb (by omega)]; rfl) (fun g => by rw [by_extract s a b (j + 3) hb (by omega)]; rfl),
      cl_cut (b - a - j) (s.size - (a + j)) _ _ _ _ (by omega) (by omega), ← e2]
    by_cases g : a + j + chr s (a + j) ≤ b
    · rw [if_pos g, if_pos (by omega)]
    · rw [if_neg g, if_neg (by omega)]
  · rw [chr_end _ _ (by omega)]
    split <;> omega

theorem chr_drop (s : ByteArray) (a : Nat) (h : a ≤ s.size) : chr (s.extract a s.size) 0 = chr s a := by
  rw [chr_extract s a s.size 0 (Nat.le_refl _) (by omega), if_pos]
  · rfl
  · exact chr_le s a h

/-- In the first m bytes the characters go on to the last place up to which they stand there whole. -/
theorem chr_take (s : ByteArray) (m i : Nat) (hm : m ≤ s.size) (h : i ≤ m) : chr (s.extract 0 m) i = if i + chr s i ≤ m then chr s i else 0 := by
  rw [chr_extract s 0 m i hm (by omega)]
  simp only [Nat.zero_add]

end TX
end Go.Proofs.YtjajandjdclifaaGreatDoor
namespace Go.Proofs.YtjajandjdclifaaGreatDoor
open Go.Shelf Go.RowKit

def decRen : Ren := ⟨fun x => if x = 197 then 164 else 166, fun x => if x = 0 then 0 else if x = 3 then 3 else if x = 4 then 4 else if x = 5 then 5 else if x = 9 then 9 else if x = 21 then 21 else if x = 46 then 125 else if x = 105 then 232 else if x = 119 then 237 else if x = 138 then 239 else 240, fun x => if x = 3 then 0 else 1⟩

theorem decLays : Lays.n197 Tryz.prog decRen where
  mixed := by kernel_rfl
  f197 := by kernel_rfl
  f260 := by kernel_rfl
  g3 := by kernel_rfl
  g4 := by kernel_rfl
  t119 := by kernel_rfl
  a119 := fun _ => by kernel_rfl
  z119 := fun _ => by kernel_rfl
  t0 := by kernel_rfl
  a0 := fun _ => by kernel_rfl
  z0 := fun _ => by kernel_rfl
  v0 := fun _ => by kernel_rfl
  t3 := by kernel_rfl
  a3 := fun _ => by kernel_rfl
  z3 := fun _ => by kernel_rfl
  v3 := fun _ => by kernel_rfl
  t4 := by kernel_rfl
  a4 := fun _ => by kernel_rfl
  z4 := fun _ => by kernel_rfl
  v4 := fun _ => by kernel_rfl
  t5 := by kernel_rfl
  a5 := fun _ => by kernel_rfl
  z5 := fun _ => by kernel_rfl
  v5 := fun _ => by kernel_rfl
  t9 := by kernel_rfl
  a9 := fun _ => by kernel_rfl
  z9 := fun _ => by kernel_rfl
  v9 := fun _ => by kernel_rfl
  t21 := by kernel_rfl
  a21 := fun _ => by kernel_rfl
  z21 := fun _ => by kernel_rfl
  v21 := fun _ => by kernel_rfl
  t46 := by kernel_rfl
  a46 := fun _ => by kernel_rfl
  z46 := fun _ => by kernel_rfl
  v46 := fun _ => by kernel_rfl
  t105 := by kernel_rfl
  a105 := fun _ => by kernel_rfl
  z105 := fun _ => by kernel_rfl
  v105 := fun _ => by kernel_rfl
  t138 := by kernel_rfl
  a138 := fun _ => by kernel_rfl
  z138 := fun _ => by kernel_rfl
  v138 := fun _ => by kernel_rfl
  t139 := by kernel_rfl
  a139 := fun _ => by kernel_rfl
  z139 := fun _ => by kernel_rfl
  v139 := fun _ => by kernel_rfl

/-- The decoder's two tables hold what their initialisers lay. -/
def Tabs (w : World) : Prop := Lib.Utf8Tabs 0 1 w

theorem block_lt {w : World} {b o : Nat} {v : Value} (h : w.cell? ⟨b, o, none⟩ = some v) : b < w.heap.size := by
  apply Classical.byContradiction
  intro hb
  unfold World.cell? at h
  rw [Array.getElem?_eq_none (show w.heap.size ≤ b by omega)] at h
  simp at h

theorem Tabs.below {w w' : World} (h : Tabs w) (hb : Below w.heap.size w w') : Tabs w' := by
  obtain ⟨h1, h2⟩ := h
  have l1 := block_lt (h1 0 (by omega))
  have l2 := block_lt (h2 0 (by omega)).1
  refine ⟨fun c hc => ?_, fun i hi => ⟨?_, ?_⟩⟩
  · rw [hb.cell (p := ⟨_, _, none⟩) l1]; exact h1 c hc
  · rw [hb.cell (p := ⟨_, _, none⟩) l2]; exact (h2 i hi).1
  · rw [hb.cell (p := ⟨_, _, none⟩) l2]; exact (h2 i hi).2

theorem dec_any (s : ByteArray) (w : World) (hT : Tabs w) :
    Calls Tryz.prog 164 #[.string s] w fun e w' => e = .returned (.tuple #[.int .i32 (Lib.decodeGo s).1, .int .i64 (Lib.decodeGo s).2]) ∧ Below w.heap.size w w' :=
  Any.utf8_DecodeRuneInString decLays s w hT

namespace TX
theorem dec_by (s : ByteArray) (h : 0 < s.size) : Lib.decodeGo s = Lib.decodeN s.size (by_ s 0) (by_ s 1) (by_ s 2) (by_ s 3) := by
  unfold Lib.decodeGo
  rw [if_neg (by omega), Lib.decode_at]
  rfl

theorem chr_by (s : ByteArray) (h : 0 < s.size) : chr s 0 = cl s.size (by_ s 0) (by_ s 1) (by_ s 2) (by_ s 3) := by
  unfold chr
  rw [if_pos h]
  rfl

theorem dec_no (s : ByteArray) (h : chr s 0 = 0) : (Lib.decodeGo s).1 = 0 ∨ ((Lib.decodeGo s).1 = 65533 ∧ (Lib.decodeGo s).2 ≤ 1) := by
  by_cases hz : 0 < s.size
  · rw [dec_by s hz]
    rw [chr_by s hz] at h
    rcases cl_dec s.size (by_ s 0) (by_ s 1) (by_ s 2) (by_ s 3) (by_lt _ _) (by_lt _ _) (by_lt _ _) (by_lt _ _) with ⟨_, h1 | ⟨h1, h2⟩⟩ | ⟨h1, _⟩
    · exact .inl h1
    · exact .inr ⟨h1, by omega⟩
    · exact absurd h h1
  · have e : s.size = 0 := by omega
    unfold Lib.decodeGo
    rw [if_pos e]
    exact .inr ⟨rfl, by decide⟩

theorem dec_yes (s : ByteArray) (h : chr s 0 ≠ 0) : (Lib.decodeGo s).2 = chr s 0 ∧ 0 < (Lib.decodeGo s).1 ∧ (Lib.decodeGo s).1 ≤ 1114111 ∧ ((Lib.decodeGo s).1 = 65533 → 1 < chr s 0) := by
  have hz := chr_lt h
  rw [dec_by s hz, chr_by s hz]
  rw [chr_by s hz] at h
  rcases cl_dec s.size (by_ s 0) (by_ s 1) (by_ s 2) (by_ s 3) (by_lt _ _) (by_lt _ _) (by_lt _ _) (by_lt _ _) with ⟨h1, _⟩ | ⟨_, h1⟩
  · exact absurd h1 h
  · exact h1
end TX

theorem ret_two {a b c d : Int} (h : a = c) (g : b = d) : Ending.returned (.tuple #[.int .i32 a, .int .i64 b]) = .returned (.tuple #[.int .i32 c, .int .i64 d]) := by rw [h, g]

set_option maxHeartbeats 400000 in
theorem first_no (s : ByteArray) (h : TX.chr s 0 = 0) (w : World) (hT : Tabs w) :
    Calls Tryz.prog 160 #[.string s] w fun e w' => e = .returned (.tuple #[.int .i32 (-1), .int .i64 0]) ∧ Below w.heap.size w w' := by
  have hd := TX.dec_no s h
  clear h
  have C := dec_any s w hT
  generalize Lib.decodeGo s = d at hd C
  obtain ⟨r, z⟩ := d
  simp only at hd C
  rcases hd with rfl | ⟨rfl, hz⟩
  · go_enter Tryz.func160, Tryz.ntmps160
    go_wp2_with fail
    refine C.mono ?_
    rintro e w1 ⟨rfl, b1⟩
    go_wp2
    go_ret2
    exact ⟨rfl, b1⟩
  · have hz' : decide ((z : Int) ≤ 1) = true := decide_eq_true (by omega)
    go_enter Tryz.func160, Tryz.ntmps160
    go_wp2_with fail
    refine C.mono ?_
    rintro e w1 ⟨rfl, b1⟩
    go_wp2
    go_ret2
    exact ⟨rfl, b1⟩

set_option maxHeartbeats 400000 in
theorem first_yes (s : ByteArray) (h : TX.chr s 0 ≠ 0) (w : World) (hT : Tabs w) :
    Calls Tryz.prog 160 #[.string s] w fun e w' => e = .returned (.tuple #[.int .i32 (Lib.decodeGo s).1, .int .i64 (TX.chr s 0)]) ∧ Below w.heap.size w w' := by
  obtain ⟨h1, h2, h3, h4⟩ := TX.dec_yes s h
  have C := dec_any s w hT
  rw [h1] at C
  clear h h1
  generalize (Lib.decodeGo s).1 = r at *
  generalize TX.chr s 0 = z at *
  have e0 : ((r : Int) == 0) = false := by rw [beq_eq_false_iff_ne]; omega
  by_cases hr : r = 65533
  · have hz := h4 hr
    subst hr
    have hz' : decide ((z : Int) ≤ 1) = false := decide_eq_false (by omega)
    clear h4
    go_enter Tryz.func160, Tryz.ntmps160
    go_wp2_with fail
    refine C.mono ?_
    rintro e w1 ⟨rfl, b1⟩
    go_wp2
    go_ret2
    exact ⟨rfl, b1⟩
  · have e1 : ((r : Int) == 65533) = false := by rw [beq_eq_false_iff_ne]; omega
    clear h4 hr
    go_enter Tryz.func160, Tryz.ntmps160
    go_wp2_with fail
    refine C.mono ?_
    rintro e w1 ⟨rfl, b1⟩
    go_wp2
    go_ret2
    exact ⟨rfl, b1⟩

end Go.Proofs.YtjajandjdclifaaGreatDoor
namespace Go.Proofs.YtjajandjdclifaaGreatDoor
open Go.Shelf

set_option maxRecDepth 100000 in
theorem accept_eq : (Rows.laid_unicode_utf8_acceptRanges : DataW Unit) = Lib.acceptData := by kernel_rfl
set_option maxRecDepth 100000 in
theorem first_eq : Rows.laid_unicode_utf8_first = Lib.firstData := by kernel_rfl

/-- The list that the rows of this seat bear (all rows bear the same). -/
def laidTabs : List (String × DataW Unit) := Rows.packetGetsRow.laid

theorem tabs_of {W : World} (h : laidMetH Tryz.prog laidTabs W) : Tabs W := by
  rw [MakeChecks.laidMetH_plain _ _ _ (by kernel_rfl)] at h
  have h1 := Lib.laidMet.reads (l := [_, _]) h (.head _)
  have h2 := Lib.laidMet.reads (l := [_, _]) h (.tail _ (.head _))
  rw [accept_eq] at h1
  rw [first_eq] at h2
  exact utf8Tabs_of_reads (ρ := decRen) { decLays with } ⟨by kernel_rfl, by kernel_rfl, by kernel_rfl, by kernel_rfl, by kernel_rfl, by kernel_rfl, by kernel_rfl⟩ h2 h1

end Go.Proofs.YtjajandjdclifaaGreatDoor
namespace Go.Proofs.YtjajandjdclifaaGreatDoor
namespace PR

def l1 : List Int := [1, 23, 25, 36, 37, 40, 41, 42]
def l2 : List Int := [19, 33, 34, 35]
def l3 : List Int := [2, 17, 24, 39]
def l5 : List Int := [9, 22]
def l6 : List Int := [3, 8, 18, 21, 26, 28, 31]
/-- Is the number in the list? -/
def has (n : Int) : List Int → Bool
  | [] => false
  | a :: l => a == n || has n l
/-- The kind of an identifier. -/
def kd (id : Int) : Int := if has id l1 = true then 1 else if has id l2 = true then 2 else if has id l3 = true then 3 else if id = 11 then 4 else if has id l5 = true then 5 else if has id l6 = true then 6 else if id = 38 then 7 else 0

theorem drop_at {l : List Int} {k : Nat} {x : Int} (h : l[k]? = some x) : l.drop k = x :: l.drop (k + 1) := by
  obtain ⟨hk, he⟩ := List.getElem?_eq_some_iff.1 h
  rw [List.drop_eq_getElem_cons hk, he]
theorem has_yes {n x : Int} {l : List Int} {k : Nat} (h : l[k]? = some x) (he : (x == n) = true) : has n (l.drop k) = true := by rw [drop_at h, has, he]; rfl
theorem has_no {n x : Int} {l : List Int} {k : Nat} (h : l[k]? = some x) (he : (x == n) = false) : has n (l.drop k) = has n (l.drop (k + 1)) := by rw [drop_at h, has, he]; rfl
theorem has_end (n : Int) (l : List Int) : has n (l.drop l.length) = false := by rw [List.drop_length]; rfl
theorem kd_le (id : Int) : 0 ≤ kd id ∧ kd id ≤ 7 := by
  unfold kd
  repeat' split
  all_goals omega
/-- An identifier of none of the kinds is another one than all of these. -/
theorem kd_none {id : Int} (h : id < 0 ∨ 42 < id) : kd id = 0 := by
  have hh : ∀ l : List Int, (∀ x ∈ l, 0 ≤ x ∧ x ≤ 42) → has id l = false := by
    intro l
    induction l with
    | nil => intro _; rfl
    | cons a l ih =>
      intro hl
      have h1 := hl a (.head _)
      rw [has, ih (fun x hx => hl x (.tail _ hx)), show (a == id) = false by rw [beq_eq_false_iff_ne]; omega]
      rfl
  unfold kd
  rw [hh l1 (by decide), hh l2 (by decide), hh l3 (by decide), hh l5 (by decide), hh l6 (by decide)]
  rw [if_neg (by decide), if_neg (by decide), if_neg (by decide), if_neg (by omega), if_neg (by decide), if_neg (by decide), if_neg (by omega)]
end PR
end Go.Proofs.YtjajandjdclifaaGreatDoor
namespace Go.Proofs.YtjajandjdclifaaGreatDoor
open Go.RowKit

set_option maxRecDepth 100000 in
set_option maxHeartbeats 4000000 in
theorem kind_small (k : Nat) (hk : k ≤ 42) (w : World) : Calls Tryz.prog 155 #[.int .i64 (k : Int)] w fun e w' => e = .returned (.int .i64 (PR.kd (k : Int))) ∧ w = w' := by
  have h : k = 0 ∨ k = 1 ∨ k = 2 ∨ k = 3 ∨ k = 4 ∨ k = 5 ∨ k = 6 ∨ k = 7 ∨ k = 8 ∨ k = 9 ∨ k = 10 ∨ k = 11 ∨ k = 12 ∨ k = 13 ∨ k = 14 ∨ k = 15 ∨ k = 16 ∨ k = 17 ∨ k = 18 ∨ k = 19 ∨ k = 20 ∨ k = 21 ∨ k = 22 ∨ k = 23 ∨ k = 24 ∨ k = 25 ∨ k = 26 ∨ k = 27 ∨ k = 28 ∨ k = 29 ∨ k = 30 ∨ k = 31 ∨ k = 32 ∨ k = 33 ∨ k = 34 ∨ k = 35 ∨ k = 36 ∨ k = 37 ∨ k = 38 ∨ k = 39 ∨ k = 40 ∨ k = 41 ∨ k = 42 := by omega
  rcases h with rfl | rfl | rfl | rfl | rfl | rfl | rfl | rfl | rfl | rfl | rfl | rfl | rfl | rfl | rfl | rfl | rfl | rfl | rfl | rfl | rfl | rfl | rfl | rfl | rfl | rfl | rfl | rfl | rfl | rfl | rfl | rfl | rfl | rfl | rfl | rfl | rfl | rfl | rfl | rfl | rfl | rfl | rfl
  all_goals
    go_enter Tryz.func155, Tryz.ntmps155
    go_wp2
    go_ret
    exact ⟨rfl, rfl⟩

theorem kind_any (id : Int) (w : World) : Calls Tryz.prog 155 #[.int .i64 id] w fun e w' => e = .returned (.int .i64 (PR.kd id)) ∧ w = w' := by
  by_cases h : id < 0 ∨ 42 < id
  · rw [PR.kd_none h]
    have h0 : ∀ c : Int, 0 ≤ c → c ≤ 42 → (id == c) = false := fun c h1 h2 => by rw [beq_eq_false_iff_ne]; omega
    have e1 := h0 1 (by decide) (by decide); have e2 := h0 2 (by decide) (by decide); have e3 := h0 3 (by decide) (by decide); have e8 := h0 8 (by decide) (by decide); have e9 := h0 9 (by decide) (by decide); have e11 := h0 11 (by decide) (by decide)
    have e17 := h0 17 (by decide) (by decide); have e18 := h0 18 (by decide) (by decide); have e19 := h0 19 (by decide) (by decide); have e21 := h0 21 (by decide) (by decide); have e22 := h0 22 (by decide) (by decide); have e23 := h0 23 (by decide) (by decide)
    have e24 := h0 24 (by decide) (by decide); have e25 := h0 25 (by decide) (by decide); have e26 := h0 26 (by decide) (by decide); have e28 := h0 28 (by decide) (by decide); have e31 := h0 31 (by decide) (by decide)
    have e33 := h0 33 (by decide) (by decide); have e34 := h0 34 (by decide) (by decide); have e35 := h0 35 (by decide) (by decide); have e36 := h0 36 (by decide) (by decide); have e37 := h0 37 (by decide) (by decide); have e38 := h0 38 (by decide) (by decide)
    have e39 := h0 39 (by decide) (by decide); have e40 := h0 40 (by decide) (by decide); have e41 := h0 41 (by decide) (by decide); have e42 := h0 42 (by decide) (by decide)
    clear h0 h
    go_enter Tryz.func155, Tryz.ntmps155
    go_wp2
    go_ret
    exact ⟨rfl, rfl⟩
  · obtain ⟨k, rfl⟩ : ∃ k : Nat, id = (k : Int) := ⟨id.toNat, by omega⟩
    exact kind_small k (by omega) w

/-- A row of numbers. -/
def Nums (w : World) (g : Nat) (l : List Int) : Prop := ∀ (i : Nat) x, l[i]? = some x → w.cell? ⟨g, i, none⟩ = some (.int .i64 x)
theorem nums_new (w : World) (l : List Int) (t : TypeId) : Nums (w.alloc (.cells (l.map (Value.int .i64)).toArray t)) w.heap.size l := by
  intro i x hx
  rw [World.cell?_alloc_at _ _ _ _ rfl]
  simp [hx]

set_option maxHeartbeats 1000000 in
theorem in_any (n : Int) (g cap : Nat) (l : List Int) (w : World) (hl : l.length ≤ 100) (hc : Nums w g l) :
    Calls Tryz.prog 143 #[.int .i64 n, .slice (some ⟨g, 0, none⟩) l.length cap] w fun e w' => e = .returned (.bool (PR.has n l)) ∧ w = w' := by
  have H := Lib.hid hc
  clear hc
  go_enter Tryz.func143, Tryz.ntmps143
  go_wp2
  go_loop [5] (fun i => ∃ k : Nat, i = .int .i64 k ∧ k ≤ l.length ∧ Hid (PR.has n (l.drop k) = PR.has n l)) (fun i => l.length - (intOf i).toNat)
  case atStart => exact ⟨0, rfl, by omega, Lib.hid rfl⟩
  case round =>
    obtain ⟨k, rfl, hk, hk1⟩ := hrel
    by_cases hlt : k < l.length
    · obtain ⟨x, hx⟩ : ∃ x, l[k]? = some x := ⟨l[k], List.getElem?_eq_getElem hlt⟩
      have c1 := H.out k x hx
      by_cases he : (x == n) = true
      · have E1 := Lib.hid (PR.has_yes hx he)
        clear hx
        go_wp2
        go_ret
        exact ⟨by rw [← hk1.out, E1.out]; rfl, rfl⟩
      · have he' : (x == n) = false := by simpa using he
        have E1 := Lib.hid (PR.has_no hx he')
        clear hx he
        go_wp2
        go_round
        case rel => exact ⟨k + 1, by go_num, by omega, Lib.hid (by rw [← E1.out]; exact hk1.out)⟩
        case measure => simp [intOf]; omega
    · have hkl : k = l.length := by omega
      subst hkl
      have E1 := Lib.hid (PR.has_end n l)
      go_wp2
      go_ret
      exact ⟨by rw [← hk1.out, E1.out]; rfl, rfl⟩
end Go.Proofs.YtjajandjdclifaaGreatDoor
namespace Go.Proofs.YtjajandjdclifaaGreatDoor
open Go.RowKit

/-- A property as plain data. -/
structure Pr where
  id : Int
  n : Int
  s : ByteArray
  t : ByteArray
def Pr.cells (p : Pr) : List Value := [.int .i64 p.id, .int .i64 p.n, .string p.s, .string p.t]
def flatP (l : List Pr) : List Value := l.flatMap Pr.cells
theorem flatP_snoc (l : List Pr) (p : Pr) : flatP (l ++ [p]) = flatP l ++ [.int .i64 p.id, .int .i64 p.n, .string p.s, .string p.t] := by simp [flatP, Pr.cells]
theorem flatP_len (l : List Pr) : (flatP l).length = l.length * 4 := by
  induction l with
  | nil => rfl
  | cons a l ih => simp only [flatP, List.flatMap_cons, List.length_append] at ih ⊢; rw [ih]; simp [Pr.cells]; omega
theorem flatP_at : ∀ (l : List Pr) (i : Nat) (p : Pr), l[i]? = some p → (flatP l)[i * 4]? = some (.int .i64 p.id) ∧ (flatP l)[i * 4 + 1]? = some (.int .i64 p.n) ∧ (flatP l)[i * 4 + 2]? = some (.string p.s) ∧ (flatP l)[i * 4 + 3]? = some (.string p.t)
  | [], i, p, h => by simp at h
  | a :: l, 0, p, h => by simp at h; subst h; simp [flatP, Pr.cells]
  | a :: l, i + 1, p, h => by
    have ih := flatP_at l i p (by simpa using h)
    have e : ∀ j, (flatP (a :: l))[(i + 1) * 4 + j]? = (flatP l)[i * 4 + j]? := fun j => by
      rw [show (i + 1) * 4 + j = 4 + (i * 4 + j) by omega]
      show (Pr.cells a ++ flatP l)[4 + (i * 4 + j)]? = _
      rw [List.getElem?_append_right (by simp [Pr.cells])]
      congr 1
      simp [Pr.cells]
    exact ⟨(e 0).trans ih.1, (e 1).trans ih.2.1, (e 2).trans ih.2.2.1, (e 3).trans ih.2.2.2⟩

/-- A row of properties, from an address on. -/
def Props (w : World) (A : Option Addr) (l : List Pr) : Prop :=
  ∀ (i : Nat) p, l[i]? = some p → ∃ g o, A = some ⟨g, o, none⟩ ∧ g < w.heap.size ∧
    w.cell? ⟨g, o + i * 4, none⟩ = some (.int .i64 p.id) ∧ w.cell? ⟨g, o + i * 4 + 1, none⟩ = some (.int .i64 p.n) ∧ w.cell? ⟨g, o + i * 4 + 2, none⟩ = some (.string p.s) ∧ w.cell? ⟨g, o + i * 4 + 3, none⟩ = some (.string p.t)
theorem Props.below {w w' : World} {A : Option Addr} {l : List Pr} (h : Props w A l) (hb : Below w.heap.size w w') : Props w' A l := fun i p hp => by
  obtain ⟨g, o, hA, hg, h0, h1, h2, h3⟩ := h i p hp
  have := hb.size
  exact ⟨g, o, hA, by omega, (hb.cell (p := ⟨g, _, none⟩) hg).trans h0, (hb.cell (p := ⟨g, _, none⟩) hg).trans h1, (hb.cell (p := ⟨g, _, none⟩) hg).trans h2, (hb.cell (p := ⟨g, _, none⟩) hg).trans h3⟩
theorem Props.take {w : World} {A : Option Addr} {l : List Pr} (h : Props w A l) (k : Nat) : Props w A (l.take k) := fun i p hp => by
  rw [List.getElem?_take] at hp
  split at hp
  · exact h i p hp
  · cases hp
theorem add0 (g j : Nat) : (⟨g, 0, none⟩ : Addr).add j = ⟨g, j, none⟩ := by
  unfold Addr.add
  split <;> simp_all
theorem own_props {w : World} {B : Nat} {t : TypeId} {A : Option Addr} {n cap : Nat} {l : List Pr} (h : w.ownsRow B t 4 (.slice A n cap) n (flatP l)) : Props w A l := fun i p hp => by
  have hi := (List.getElem?_eq_some_iff.1 hp).1
  have hn : n = l.length := by have h1 := h.1; rw [flatP_len] at h1; omega
  obtain ⟨g, c, hv, hg, hg'⟩ := h.form (by omega)
  injection hv with hv _ _
  subst hv
  obtain ⟨l0, l1, l2, l3⟩ := flatP_at l i p hp
  have key : ∀ (j : Nat) v, (flatP l)[j]? = some v → w.cell? ⟨g, 0 + j, none⟩ = some v := fun j v hv => by
    rw [Nat.zero_add, ← add0]; exact h.cells (g := g) rfl j v hv
  exact ⟨g, 0, rfl, hg', key _ _ l0, key _ _ l1, key _ _ l2, key _ _ l3⟩
theorem own_below {B : Nat} {e : TypeId} {k : Nat} {v : Value} {n : Nat} {xs : List Value} {w w' : World} (h : w.ownsRow B e k v n xs) (hb : Below w.heap.size w w') : w'.ownsRow B e k v n xs :=
  h.kept (row := none) ⟨hb.os, hb.tape, hb.output, hb.size, fun i hi _ => hb.block i hi⟩ (by
    rcases h.2 with ⟨rfl, _⟩ | ⟨g, c, u, rfl, _⟩
    · exact .inl rfl
    · exact .inr (by simp [Value.ownBlock]))
theorem own_nil (w : World) (B : Nat) (e : TypeId) (k : Nat) : w.ownsRow B e k (.slice none 0 0) 0 [] := ⟨by simp, .inl ⟨rfl, rfl⟩⟩
theorem own_form {B : Nat} {e : TypeId} {k : Nat} {v : Value} {n : Nat} {xs : List Value} {w : World} (h : w.ownsRow B e k v n xs) : ∃ A cap, v = .slice A n cap := by
  rcases h.2 with ⟨rfl, rfl⟩ | ⟨g, c, u, rfl, _⟩
  · exact ⟨_, _, rfl⟩
  · exact ⟨_, _, rfl⟩
theorem own_cap {w : World} {N : Nat} {t : TypeId} {s : Nat} {A : Option Addr} {n cap : Nat} {l : List Value} (h : w.ownsRow N t s (.slice A n cap) n l) : n ≤ cap := by
  rcases h.2 with ⟨hx, hy⟩ | ⟨g, c, cur, hx, _, _, h3, h4, _⟩
  · omega
  · injection hx with _ _ hx; subst hx; exact h3
theorem rows_apart {w : World} {b1 b2 : Nat} {e1 e2 : TypeId} {s1 s2 : Nat} {v1 v2 : Value} {n1 n2 : Nat} {x1 x2 : List Value} (h1 : w.ownsRow b1 e1 s1 v1 n1 x1) (h2 : w.ownsRow b2 e2 s2 v2 n2 x2) (hne : e1 ≠ e2) : v1.ownBlock = none ∨ v1.ownBlock ≠ v2.ownBlock := by
  rcases h1.2 with ⟨rfl, _⟩ | ⟨g1, c1, u1, rfl, _, hg1, _⟩
  · exact .inl rfl
  · rcases h2.2 with ⟨rfl, _⟩ | ⟨g2, c2, u2, rfl, _, hg2, _⟩
    · exact .inr (by simp [Value.ownBlock])
    · refine .inr fun he => ?_
      have : g1 = g2 := by simpa [Value.ownBlock] using he
      subst this
      rw [hg1] at hg2
      injection hg2 with hg2
      injection hg2 with _ hg2
      exact hne hg2
theorem cell_heap {w : World} {b i : Nat} {cs : Array Value} {t : TypeId} (h : w.heap[b]? = some (.cells cs t (0, 0))) : w.cell? ⟨b, i, none⟩ = cs[i]? := by simp [World.cell?, h]
theorem frozen_heap {w : World} {b i : Nat} {cs : Array Value} {t : TypeId} (h : w.heap[b]? = some (.cells cs t (0, 0))) : w.frozen? ⟨b, i, none⟩ = false := by simp [World.frozen?, h]

/-- Where the first property of an identifier stands. -/
def ix (id : Int) (k : Nat) : List Pr → Int
  | [] => -1
  | p :: l => if (p.id == id) = true then (k : Int) else ix id (k + 1) l
/-- The first property of an identifier. -/
def fnd (id : Int) : List Pr → Option Pr
  | [] => none
  | p :: l => if (p.id == id) = true then some p else fnd id l
theorem ix_spec (id : Int) : ∀ (l : List Pr) (k : Nat), (ix id k l = -1 ∧ fnd id l = none) ∨ (∃ (j : Nat) (p : Pr), ix id k l = ((k + j : Nat) : Int) ∧ l[j]? = some p ∧ fnd id l = some p)
  | [], k => .inl ⟨rfl, rfl⟩
  | p :: l, k => by
    unfold ix fnd
    by_cases h : (p.id == id) = true
    · rw [if_pos h, if_pos h]; exact .inr ⟨0, p, by simp, by simp, rfl⟩
    · rw [if_neg h, if_neg h]
      rcases ix_spec id l (k + 1) with h1 | ⟨j, q, h1, h2, h3⟩
      · exact .inl h1
      · exact .inr ⟨j + 1, q, by rw [h1]; omega, by simpa using h2, h3⟩
theorem prop_drop {l : List Pr} {k : Nat} {p : Pr} (h : l[k]? = some p) : l.drop k = p :: l.drop (k + 1) := by
  obtain ⟨hk, he⟩ := List.getElem?_eq_some_iff.1 h
  rw [List.drop_eq_getElem_cons hk, he]
theorem ix_yes {id : Int} {l : List Pr} {k : Nat} {p : Pr} (h : l[k]? = some p) (he : (p.id == id) = true) : ix id k (l.drop k) = k := by rw [prop_drop h, ix, if_pos he]
theorem ix_no {id : Int} {l : List Pr} {k : Nat} {p : Pr} (h : l[k]? = some p) (he : (p.id == id) = false) : ix id k (l.drop k) = ix id (k + 1) (l.drop (k + 1)) := by rw [prop_drop h, ix, if_neg (by rw [he]; decide)]
theorem ix_end (id : Int) (l : List Pr) : ix id l.length (l.drop l.length) = -1 := by rw [List.drop_length]; rfl
theorem fnd_no {id : Int} {l : List Pr} {k : Nat} {p : Pr} (h : l[k]? = some p) (he : (p.id == id) = false) : fnd id (l.drop k) = fnd id (l.drop (k + 1)) := by rw [prop_drop h, fnd, if_neg (by rw [he]; decide)]
theorem fnd_yes {id : Int} {l : List Pr} {k : Nat} {p : Pr} (h : l[k]? = some p) (he : (p.id == id) = true) : fnd id (l.drop k) = some p := by rw [prop_drop h, fnd, if_pos he]
theorem fnd_end (id : Int) (l : List Pr) : fnd id (l.drop l.length) = none := by rw [List.drop_length]; rfl
end Go.Proofs.YtjajandjdclifaaGreatDoor
namespace Go.Proofs.YtjajandjdclifaaGreatDoor
open Go.RowKit

theorem clo_any (p : Pr) (b : Nat) (id : Int) (w : World) (hc : w.cell? ⟨b, 0, none⟩ = some (.int .i64 id)) (hb : b < w.heap.size) :
    Calls Tryz.prog 163 #[.agg #[.int .i64 p.id, .int .i64 p.n, .string p.s, .string p.t], .pointer (some ⟨b, 0, none⟩)] w fun e w' => e = .returned (.bool (p.id == id)) ∧ Below w.heap.size w w' := by
  have hne : b ≠ w.heap.size := by omega
  go_enter Tryz.func163, Tryz.ntmps163
  go_wp2
  go_ret
  exact ⟨rfl, (Below.refl _ _).alloc (Nat.le_refl _) _⟩

set_option maxRecDepth 100000 in
set_option maxHeartbeats 1000000 in
theorem ifn_any (A : Option Addr) (cap : Nat) (l : List Pr) (b : Nat) (id : Int) (w : World) (hl : l.length ≤ 1000) (h : Props w A l) (hc : w.cell? ⟨b, 0, none⟩ = some (.int .i64 id)) (hb : b < w.heap.size) :
    Calls Tryz.prog 149 #[.slice A l.length cap, .func (.func 163) #[] #[.pointer (some ⟨b, 0, none⟩)]] w fun e w' => e = .returned (.int .i64 (ix id 0 l)) ∧ Below w.heap.size w w' := by
  have H := Lib.hid h
  have HC := Lib.hid hc
  clear h hc
  go_enter Tryz.func149, Tryz.ntmps149
  go_wp2
  go_loopw [8] (fun i wr => ∃ k : Nat, i = .int .i64 k ∧ k ≤ l.length ∧ Hid (ix id k (l.drop k) = ix id 0 l) ∧ Hid (Below w.heap.size w wr)) (fun i _ => l.length - (intOf i).toNat)
  case atStart => exact ⟨0, rfl, by omega, Lib.hid rfl, Lib.hid (Below.refl _ _)⟩
  case round =>
    obtain ⟨k, rfl, hk, hk1, hbr⟩ := hrel
    have hsr := hbr.out.size
    by_cases hlt : k < l.length
    · obtain ⟨p, hp⟩ : ∃ p, l[k]? = some p := ⟨l[k], List.getElem?_eq_getElem hlt⟩
      obtain ⟨g, o, rfl, hg, r0, r1, r2, r3⟩ := H.out k p hp
      have q0 : wr.cell? ⟨g, o + k * 4, none⟩ = some (.int .i64 p.id) := by rw [hbr.out.cell (by simp; omega)]; exact r0
      have q1 : wr.cell? ⟨g, o + k * 4 + 1, none⟩ = some (.int .i64 p.n) := by rw [hbr.out.cell (by simp; omega)]; exact r1
      have q2 : wr.cell? ⟨g, o + k * 4 + 2, none⟩ = some (.string p.s) := by rw [hbr.out.cell (by simp; omega)]; exact r2
      have q3 : wr.cell? ⟨g, o + k * 4 + 3, none⟩ = some (.string p.t) := by rw [hbr.out.cell (by simp; omega)]; exact r3
      have C := Lib.hid (clo_any p b id wr (by rw [hbr.out.cell (p := ⟨b, 0, none⟩) hb]; exact HC.out) (by omega))
      have i1 : (k : Int) < (l.length : Int) := by omega
      have i0 : (0 : Int) ≤ (k : Int) := by omega
      clear r0 r1 r2 r3
      by_cases he : (p.id == id) = true
      · have E1 := Lib.hid (ix_yes hp he)
        rw [he] at C
        clear hp he
        go_wp2_with fail
        refine C.out.mono ?_
        rintro e w1 ⟨rfl, b1⟩
        have B1 := Lib.hid b1
        clear b1 C
        go_wp2
        go_ret
        exact ⟨by rw [← hk1.out, E1.out]; rfl, hbr.out.trans (B1.out.mono hsr)⟩
      · have he' : (p.id == id) = false := by simpa using he
        have E1 := Lib.hid (ix_no hp he')
        rw [he'] at C
        clear hp he he'
        go_wp2_with fail
        refine C.out.mono ?_
        rintro e w1 ⟨rfl, b1⟩
        have B1 := Lib.hid b1
        clear b1 C
        go_wp2
        go_roundw
        case rel => exact ⟨k + 1, by go_num, by omega, Lib.hid (by rw [← E1.out]; exact hk1.out), Lib.hid (hbr.out.trans (B1.out.mono hsr))⟩
        case measure => simp [intOf]; omega
    · have hkl : k = l.length := by omega
      subst hkl
      have E1 := Lib.hid (ix_end id l)
      go_wp2
      go_ret
      exact ⟨by rw [← hk1.out, E1.out]; rfl, hbr.out⟩

theorem index_any (A : Option Addr) (cap : Nat) (l : List Pr) (id : Int) (w : World) (hl : l.length ≤ 1000) (h : Props w A l) :
    Calls Tryz.prog 156 #[.slice A l.length cap, .int .i64 id] w fun e w' => e = .returned (.int .i64 (ix id 0 l)) ∧ Below w.heap.size w w' := by
  have hbl := (Below.refl w.heap.size w).alloc (Nat.le_refl _) (.cells #[.int .i64 id] 3)
  have C := Lib.hid (ifn_any A cap l w.heap.size id (w.alloc (.cells #[.int .i64 id] 3)) hl (h.below hbl) (by rw [World.cell?_alloc_at _ _ _ _ rfl]; rfl) (by simp))
  have hmf : ∀ (fn : Fn) (first cap : Array Value) (w : World), (Instr.makeFunc fn first cap).run Tryz.prog w = .ok (.func fn first cap) w := fun _ _ _ _ => rfl
  have Hb := Lib.hid hbl
  clear h hbl
  go_enter Tryz.func156, Tryz.ntmps156
  go_wp2_with fail
  refine C.out.mono ?_
  rintro e w1 ⟨rfl, b1⟩
  have B1 := Lib.hid b1
  clear b1 C
  go_wp2
  go_ret
  exact ⟨rfl, Hb.out.trans (B1.out.mono (by simp))⟩
end Go.Proofs.YtjajandjdclifaaGreatDoor
namespace Go.Proofs.YtjajandjdclifaaGreatDoor
open Go.RowKit

theorem toList_same {a b : ByteArray} (h : a.toList = b.toList) : a = b := by
  apply ByteArray.ext
  apply Array.toList_inj.1
  rw [← ByteArray.toList_eq, ← ByteArray.toList_eq, h]
theorem strInfo : (Tryz.prog.info? 9).map (fun i => (i.zero, i.size, i.bytes)) = some (some (.string ⟨#[]⟩), 1, 16) := by kernel_rfl
theorem info_parts {e : TypeId} {z : Value} {n b : Nat} (h : (Tryz.prog.info? e).map (fun i => (i.zero, i.size, i.bytes)) = some (some z, n, b)) : ∃ i, Tryz.prog.info? e = some i ∧ i.zero = some z ∧ i.size = n ∧ i.bytes = b := by
  cases hi : Tryz.prog.info? e with
  | none => rw [hi] at h; cases h
  | some i => rw [hi] at h; simp at h; exact ⟨i, rfl, h.1, h.2.1, h.2.2⟩
/-- An append whose run is known. -/
theorem wpList_run {P : Program} {ops : Array Oper} {rest : List Oper} {o : Oper} {a : Act} {w : World} {Q : Exit → Act → World → Prop} (hgd : o.guard = none) (s x : Operand) (t1 t2 : TypeId)
    (ho : o.op = .call { callee := .builtin .append, args := #[s, x], argTypes := #[t1, t2] }) {v u v' : Value} {w' : World} (hs : a.eval s = v) (hx : a.eval x = u)
    (hr : (Builtin.append_ #[t1, t2] o.type #[v, u]).run P w = .ok v' w') (h : wpList P ops Q rest (a.put o.dst v') w') : wpList P ops Q (o :: rest) a w := by
  refine wpList_plain hgd fun K hK => ?_
  unfold Oper.wp execOp
  simp only [ho, resolve, invoke, builtin, Sem.run_bind, Sem.run_pure, Result.andThen_ok, List.map_toArray, List.map_cons, List.map_nil, hs, hx, hr]
  exact hK _ _ h
theorem app1 {T e : TypeId} {i : TypeInfo} {z : Value} {size bytes : Nat} (ht : Tryz.prog.underlying T = some (.slice e)) (hi : Tryz.prog.info? e = some i) (hz : i.zero = some z) (hz1 : i.size = size) (hz2 : i.bytes = bytes) (hzs : z.cells.size = size) (hs0 : 0 < size) (hby : bytes ≤ 1000)
    (base : Nat) (v : Value) (n : Nat) (xs : List Value) (w : World) (hown : w.ownsRow base e size v n xs) (hbase : base ≤ w.heap.size) (cs : Array Value) (hcs : cs.size = size) (h1 : ∀ u ∈ cs.toList, u.oneCell' = true) (hn : n < 1000000) :
    ∃ v' w', (Builtin.append_ #[T, T] T #[v, .slice (some ⟨w.heap.size, 0, none⟩) 1 1]).run Tryz.prog (w.alloc (.cells cs e)) = .ok v' w' ∧ w'.ownsRow base e size v' (n + 1) (xs ++ cs.toList) ∧ w.grownBy w' v.ownBlock ∧ Below base w w' := by
  obtain ⟨v', w', hr, hown', hg, _, _⟩ := run_append_own_at (P := Tryz.prog) (w.alloc (.cells cs e)) base T T e i z size bytes ht hi hz hz1 hz2 hzs hs0 v n xs (hown.alloc _) ⟨w.heap.size, 0, none⟩ 1 1 cs.toList
    (by simp [hcs]) (fun j u hu => World.news_of_block (heap_alloc_new w _) j u hu) h1 (by unfold maxLen; omega) (by have := Nat.mul_le_mul (show n + 1 ≤ 1000000 by omega) hby; omega) (by simp; omega)
  refine ⟨v', w', hr, hown', ⟨hg.os, hg.tape, hg.output, by have := hg.size; simp at this; omega, fun k hk hne => (hg.block k (by simp; omega) hne).trans (Below.heap_alloc w _ k hk)⟩, ?_⟩
  exact ((Below.refl base w).alloc hbase _).grown hg (by simp; omega) fun k hk => (hown.lt k hk).1
/-- The answer is a new row of the values us. -/
def RetRow (w : World) (t : TypeId) (size n : Nat) (us : List Value) (e : Ending) (w' : World) : Prop := ∃ v, e = .returned v ∧ w'.ownsRow w.heap.size t size v n us ∧ Below w.heap.size w w'

theorem below_of_drew {B : Nat} {a b : World} (h : Below B a.drew b) : Below B a b := ⟨h.os, h.tape, h.output, h.size, h.block⟩
theorem lt_heap {w : World} {b : Nat} {o : Obj} (h : w.heap[b]? = some o) : b < w.heap.size := by
  rcases Nat.lt_or_ge b w.heap.size with h' | h'
  · exact h'
  · rw [Array.getElem?_eq_none h'] at h; cases h
end Go.Proofs.YtjajandjdclifaaGreatDoor
namespace Go.Proofs.YtjajandjdclifaaGreatDoor
open Go.Shelf Go.RowKit

def bldRen : Ren := ⟨fun x => if x = 166 then 47 else if x = 169 then 46 else if x = 240 then 89 else if x = 276 then 119 else 0, fun x => if x = 0 then 0 else if x = 3 then 3 else if x = 4 then 4 else if x = 5 then 5 else if x = 9 then 9 else if x = 20 then 20 else if x = 37 then 45 else if x = 70 then 116 else if x = 72 then 118 else if x = 75 then 130 else if x = 80 then 71 else if x = 127 then 175 else if x = 164 then 196 else 0, fun x => x⟩

theorem bld_Lays_n166 : Lays.n166 Tryz.prog bldRen where
  mixed := by kernel_rfl
  f166 := by kernel_rfl
  f240 := by kernel_rfl
  f276 := by kernel_rfl
  t0 := by kernel_rfl
  a0 := fun _ => by kernel_rfl
  z0 := fun _ => by kernel_rfl
  v0 := fun _ => by kernel_rfl
  t3 := by kernel_rfl
  a3 := fun _ => by kernel_rfl
  z3 := fun _ => by kernel_rfl
  v3 := fun _ => by kernel_rfl
  t4 := by kernel_rfl
  a4 := fun _ => by kernel_rfl
  z4 := fun _ => by kernel_rfl
  v4 := fun _ => by kernel_rfl
  t9 := by kernel_rfl
  a9 := fun _ => by kernel_rfl
  z9 := fun _ => by kernel_rfl
  v9 := fun _ => by kernel_rfl
  t20 := by kernel_rfl
  a20 := fun _ => by kernel_rfl
  z20 := fun _ => by kernel_rfl
  v20 := fun _ => by kernel_rfl
  t37 := by kernel_rfl
  a37 := fun _ => by kernel_rfl
  z37 := fun _ => by kernel_rfl
  v37 := fun _ => by kernel_rfl
  t70 := by kernel_rfl
  a70 := fun _ => by kernel_rfl
  z70 := fun _ => by kernel_rfl
  v70 := fun _ => by kernel_rfl
  t72 := by kernel_rfl
  a72 := fun _ => by kernel_rfl
  z72 := fun _ => by kernel_rfl
  v72 := fun _ => by kernel_rfl
  t75 := by kernel_rfl
  a75 := fun _ => by kernel_rfl
  z75 := fun _ => by kernel_rfl
  v75 := fun _ => by kernel_rfl
  t164 := by kernel_rfl
  a164 := fun _ => by kernel_rfl
  z164 := fun _ => by kernel_rfl
  v164 := fun _ => by kernel_rfl

theorem bld_Lays_n169 : Lays.n169 Tryz.prog bldRen where
  mixed := by kernel_rfl
  f169 := by kernel_rfl
  t0 := by kernel_rfl
  a0 := fun _ => by kernel_rfl
  z0 := fun _ => by kernel_rfl
  v0 := fun _ => by kernel_rfl
  t3 := by kernel_rfl
  a3 := fun _ => by kernel_rfl
  z3 := fun _ => by kernel_rfl
  v3 := fun _ => by kernel_rfl
  t9 := by kernel_rfl
  a9 := fun _ => by kernel_rfl
  z9 := fun _ => by kernel_rfl
  v9 := fun _ => by kernel_rfl
  t37 := by kernel_rfl
  a37 := fun _ => by kernel_rfl
  z37 := fun _ => by kernel_rfl
  v37 := fun _ => by kernel_rfl
  t70 := by kernel_rfl
  a70 := fun _ => by kernel_rfl
  z70 := fun _ => by kernel_rfl
  v70 := fun _ => by kernel_rfl
  t72 := by kernel_rfl
  a72 := fun _ => by kernel_rfl
  z72 := fun _ => by kernel_rfl
  v72 := fun _ => by kernel_rfl
  t127 := by kernel_rfl
  a127 := fun _ => by kernel_rfl
  z127 := fun _ => by kernel_rfl
  v127 := fun _ => by kernel_rfl

theorem bld_Builder_Extra : Builder.Extra Tryz.prog bldRen where
  sizeBuilder := by kernel_rfl
  liesBuilder := by kernel_rfl
  t5 := by kernel_rfl
  a5 := fun _ => by kernel_rfl
  z5 := fun _ => by kernel_rfl
  v5 := fun _ => by kernel_rfl
  infoByte := by kernel_rfl
  cellsByte := by kernel_rfl
  sizeByte := by kernel_rfl
  neB5 := by decide

/-- The builder in block b, all that it writes in blocks from B on, holds the bytes l. -/
def Bld (B b : Nat) (l : List UInt8) (w : World) : Prop := Lib.IsBuilder 118 5 B b (Lib.byteCells l) w

theorem byteCells_app (l : List UInt8) (s : ByteArray) : Lib.byteCells l ++ Lib.strCells s = Lib.byteCells (l ++ s.data.toList) := by simp [Lib.byteCells, Lib.strCells]

theorem writes_any (B b : Nat) (l : List UInt8) (s : ByteArray) (w : World) (h : Bld B b l w) (hlen : l.length + s.size ≤ 100000000) (hB : B ≤ w.heap.size) :
    Calls Tryz.prog 47 #[.pointer (some ⟨b, 0, none⟩), .string s] w fun e w' => e = .returned (.tuple #[.int .i64 s.size, .nilIface]) ∧ Bld B b (l ++ s.data.toList) w' ∧ Below B w w' := by
  refine (Any.Builder_WriteString bld_Lays_n166 bld_Builder_Extra B b (Lib.byteCells l) s w h (by rw [Lib.byteCells_length]; omega) hB).mono ?_
  rintro e w' ⟨rfl, h1, h2⟩
  refine ⟨rfl, .inr ?_, h2⟩
  rw [← byteCells_app]
  exact h1

theorem str_any (B b : Nat) (l : List UInt8) (w : World) (h : Bld B b l w) (hB : B ≤ w.heap.size) :
    Calls Tryz.prog 46 #[.pointer (some ⟨b, 0, none⟩)] w fun e w' => e = .returned (.string ⟨l.toArray⟩) ∧ Below B w w' :=
  Any.Builder_String_any bld_Lays_n169 bld_Builder_Extra B b l w h hB

theorem Bld.below {w w' : World} {B b : Nat} {l : List UInt8} (h : Bld B b l w) (hb : Below w.heap.size w w') : Bld B b l w' := by
  have key : ∀ p, Lib.BuilderAt 118 5 B b p (Lib.byteCells l) w → Lib.BuilderAt 118 5 B b p (Lib.byteCells l) w' := by
    rintro p ⟨h1, v, h2, h3, h4⟩
    have hl : b < w.heap.size := lt_heap h2
    refine ⟨h1, v, (hb.block b hl).trans h2, ?_, h4⟩
    exact h3.kept (row := none) ⟨hb.os, hb.tape, hb.output, hb.size, fun i hi _ => hb.block i hi⟩ (by
      rcases h3.2 with ⟨rfl, _⟩ | ⟨g, c, u, rfl, _⟩
      · exact .inl rfl
      · exact .inr (by simp [Value.ownBlock]))
  rcases h with h | h
  · exact .inl (key _ h)
  · exact .inr (key _ h)

theorem Bld.new (w : World) : Bld w.heap.size w.heap.size [] (w.alloc (.cells #[.pointer none, .slice none 0 0] 118)) :=
  .inl ⟨Nat.le_refl _, _, heap_alloc_new w _, own_nil _ _ _ _, by simp [Value.ownBlock]⟩

end Go.Proofs.YtjajandjdclifaaGreatDoor
namespace Go.Proofs.YtjajandjdclifaaGreatDoor
open Go.RowKit

/-- A string behind a row of bytes of the call's own, where both together take up to 2 * 10^14 bytes. -/
theorem app_str_wide {P : Program} (w : World) (base : Nat) (t u ty e : TypeId) (i : TypeInfo) (ht : P.underlying t = some (.slice e)) (hu : P.underlying u = some .string) (hi : P.info? e = some i) (hz : i.zero = some (.int .u8 0)) (hsize : i.size = 1) (hby : i.bytes = 1)
    (v : Value) (n : Nat) (xs : List Value) (hown : w.ownsRow base e 1 v n xs) (s : ByteArray) (hs : s.size ≤ 140737488355328) (hn : n + s.size ≤ 200000000000000) (hbase : base ≤ w.heap.size) :
    ∃ v' w', (Builtin.append_ #[t, u] ty #[v, .string s]).run P w = .ok v' w' ∧ w'.ownsRow base e 1 v' (n + s.size) (xs ++ Lib.strCells s) ∧ w.grownBy w' v.ownBlock := by
  by_cases hsm : n + s.size ≤ 140737488355328
  · obtain ⟨v', w', h1, h2, h3, _⟩ := Lib.run_append_own_string (P := P) w base t u ty e i ht hu hi hz hsize hby v n xs hown s (by unfold maxLen; omega) hsm hbase
    exact ⟨v', w', h1, h2, h3⟩
  · rcases hown.2 with ⟨rfl, rfl⟩ | ⟨g, cap, cur, rfl, hbg, hg, hnc, hcm, hcs, htake⟩
    · omega
    · by_cases hroom : n + s.size ≤ cap
      · obtain ⟨w', h1, h2, h3⟩ := Lib.run_append_fits_string (P := P) w base t u ty e i ht hu hi hsize (some ⟨g, 0, none⟩) n cap xs hown s (by omega) hroom
        exact ⟨_, w', h1, h2, h3⟩
      · have hxl : xs.length = n := by simpa using hown.1
        have hr := Lib.run_append_grow_string (P := P) w t u ty e i (.int .u8 0) ht hu hi hz ⟨g, 0, none⟩ n cap xs (by rw [hsize]; omega) (hown.cells (g := g) rfl) s (by omega) (by omega) (by rw [hby]; exact growslice_fits_wide (by omega) (by omega))
        have hge := grownCap_ge w (n + s.size) cap e
        refine ⟨_, _, hr, ⟨by rw [List.length_append, hxl, Lib.strCells_length]; omega, .inr ⟨w.heap.size, grownCap w (n + s.size) cap e, _, rfl, hbase, heap_alloc_new w.drew _, hge, grownCap_le_maxLen w (n + s.size) cap e (by unfold maxLen; omega), ?_, ?_⟩⟩, ⟨rfl, rfl, rfl, by simp, fun k hk _ => heap_alloc_old w.drew _ hk⟩⟩
        · have hz1 : (Value.int IntKind.u8 0).cells.size = 1 := rfl
          simp only [Array.size_append, List.size_toArray, size_zeroCells, hz1, hxl, Lib.strCells_length]
          omega
        · have hl2 : (xs ++ Lib.strCells s).length = (n + s.size) * 1 := by rw [List.length_append, hxl, Lib.strCells_length]; omega
          simp only [Array.toList_append, List.append_assoc]
          rw [← List.append_assoc, ← hl2]
          exact List.take_left

/-- The writer in block b: the bytes l so far, the code c; 'p': whether its builder was used. -/
def WrAt (b : Nat) (p : Value) (l : List UInt8) (c : Int) (w : World) : Prop :=
  ∃ v, w.heap[b]? = some (.cells #[p, v, .int .u8 c] 120 (0, 0)) ∧ w.ownsRow b 5 1 v l.length (Lib.byteCells l) ∧ v.ownBlock ≠ some b
def Wr (b : Nat) (l : List UInt8) (c : Int) (w : World) : Prop := WrAt b (.pointer none) l c w ∨ WrAt b (.pointer (some ⟨b, 0, none⟩)) l c w
/-- All that isn't the writer's stands. -/
def Kp (b : Nat) (w w' : World) : Prop := Below b w w' ∧ Lib.OthersKept 5 (some b) w w'
theorem Kp.refl (b : Nat) (w : World) : Kp b w w := ⟨Below.refl _ _, Lib.OthersKept.refl _ _ _⟩
theorem Kp.trans {b : Nat} {w1 w2 w3 : World} (h : Kp b w1 w2) (k : Kp b w2 w3) : Kp b w1 w3 := ⟨h.1.trans k.1, h.2.trans k.2⟩
theorem Kp.of_below {b : Nat} {w w' : World} (hb : b ≤ w.heap.size) (h : Below w.heap.size w w') : Kp b w w' :=
  ⟨h.mono hb, fun k _ hk _ _ => (h.block k (lt_heap hk)).trans hk⟩
theorem Kp.size {b : Nat} {w w' : World} (h : Kp b w w') : w.heap.size ≤ w'.heap.size := h.1.size
theorem Kp.block {b k : Nat} {w w' : World} (h : Kp b w w') {cs : Array Value} {t : TypeId} {fr : Nat × Nat} (hk : w.heap[k]? = some (.cells cs t fr)) (hne : k ≠ b) (ht : t ≠ 5) : w'.heap[k]? = some (.cells cs t fr) :=
  h.2 k _ hk (fun e => hne (by injection e)) (fun c fz e => ht (by injection e))
theorem WrAt.lt {b : Nat} {p : Value} {l : List UInt8} {c : Int} {w : World} (h : WrAt b p l c w) : b < w.heap.size := by
  obtain ⟨v, h1, _⟩ := h; exact lt_heap h1
theorem Wr.lt {b : Nat} {l : List UInt8} {c : Int} {w : World} (h : Wr b l c w) : b < w.heap.size := by
  rcases h with h | h <;> exact h.lt
theorem WrAt.below {b : Nat} {p : Value} {l : List UInt8} {c : Int} {w w' : World} (h : WrAt b p l c w) (hb : Below w.heap.size w w') : WrAt b p l c w' := by
  obtain ⟨v, h1, h2, h3⟩ := h
  exact ⟨v, (hb.block b (lt_heap h1)).trans h1, own_below h2 hb, h3⟩
theorem Wr.below {b : Nat} {l : List UInt8} {c : Int} {w w' : World} (h : Wr b l c w) (hb : Below w.heap.size w w') : Wr b l c w' := by
  rcases h with h | h
  · exact .inl (h.below hb)
  · exact .inr (h.below hb)
theorem Wr.new (w : World) : Wr w.heap.size [] 0 (w.alloc (.cells #[.pointer none, .slice none 0 0, .int .u8 0] 120)) :=
  .inl ⟨_, heap_alloc_new w _, own_nil _ _ _ _, by simp [Value.ownBlock]⟩
theorem set_block {w : World} {b : Nat} {cs cs' : Array Value} {t : TypeId} {j : Nat} {u : Value} (h : w.heap[b]? = some (.cells cs t (0, 0))) (hc : cs.set! j u = cs') : (w.setCell ⟨b, j, none⟩ u).heap[b]? = some (.cells cs' t (0, 0)) := by
  subst hc
  simp [World.setCell, Array.getElem?_modify, h]
theorem own_set {w : World} {b j : Nat} {B : Nat} {e : TypeId} {k : Nat} {v u : Value} {n : Nat} {xs : List Value} (h : w.ownsRow B e k v n xs) (hne : v.ownBlock ≠ some b) : (w.setCell ⟨b, j, none⟩ u).ownsRow B e k v n xs :=
  h.kept (row := some b) ⟨rfl, rfl, rfl, by simp [World.setCell], fun i _ hi => Below.heap_setCell _ _ _ _ (fun e => hi (by simp [e]))⟩ (.inr hne)
/-- A store into the writer's own block. -/
theorem Kp.setCell {b : Nat} {w w' : World} (h : Kp b w w') (j : Nat) (u : Value) : Kp b w (w'.setCell ⟨b, j, none⟩ u) :=
  ⟨h.1.setCell (p := ⟨b, j, none⟩) (Nat.le_refl _) u, h.2.setCell ⟨b, j, none⟩ rfl u⟩

theorem bldInfo : ∃ j, Tryz.prog.info? 118 = some j ∧ j.size = 2 := by
  have h : (Tryz.prog.info? 118).map (·.size) = some 2 := by kernel_rfl
  exact Option.map_eq_some_iff.1 h
theorem bldLies : liesAt Tryz.prog Tryz.prog.depth 120 (3 / Tryz.prog.cellsOf 120) 0 118 1 = true := by kernel_rfl

set_option maxHeartbeats 1000000 in
set_option maxRecDepth 100000 in
theorem wcopy_used (b : Nat) (w : World) (h0 : w.cell? ⟨b, 0, none⟩ = some (.pointer (some ⟨b, 0, none⟩))) :
    Calls Tryz.prog 89 #[.pointer (some ⟨b, 0, none⟩)] w fun e w' => e = .returned (.tuple #[]) ∧ w = w' := by
  obtain ⟨j, hj, _⟩ := bldInfo
  have hn := Lib.run_neq_ptr_same (P := Tryz.prog) w ⟨b, 0, none⟩ Tryz.underlying116 hj
  clear hj
  go_enter Tryz.func89, Tryz.ntmps89
  go_wp2
  go_end0
  exact ⟨rfl, rfl⟩
set_option maxHeartbeats 1000000 in
set_option maxRecDepth 100000 in
theorem wcopy_fresh (b : Nat) (w : World) (h0 : w.cell? ⟨b, 0, none⟩ = some (.pointer none)) (hsh : w.shape? b = some (120, 3)) (hfz : w.frozen? ⟨b, 0, none⟩ = false) :
    Calls Tryz.prog 89 #[.pointer (some ⟨b, 0, none⟩)] w fun e w' => e = .returned (.tuple #[]) ∧ w.setCell ⟨b, 0, none⟩ (.pointer (some ⟨b, 0, none⟩)) = w' := by
  obtain ⟨j, hj, hjs⟩ := bldInfo
  have r1 := Lib.run_to_unsafe (P := Tryz.prog) w ⟨b, 0, none⟩ Tryz.underlying116 Tryz.underlying196 hj (by rw [hjs]; decide) hsh (Nat.zero_lt_succ 2)
  have r2 := Lib.run_from_unsafe (P := Tryz.prog) w ⟨b, 0, none⟩ Tryz.underlying196 Tryz.underlying116 hj hsh bldLies
  clear hj hjs hsh
  go_enter Tryz.func89, Tryz.ntmps89
  go_wp2
  rw [run_callFunc_extern Tryz.func119 (by kernel_rfl) (by kernel_rfl) (by kernel_rfl) (e := Extern.AbiNoEscape.same) (by kernel_rfl)]
  rw [Lib.run_noEscape]
  simp only [Result.andThen]
  rw [Oper.upon_value]
  go_wp2
  go_end0
  exact ⟨rfl, rfl⟩

theorem wcopy_any (b : Nat) (l : List UInt8) (c : Int) (w : World) (h : Wr b l c w) :
    Calls Tryz.prog 89 #[.pointer (some ⟨b, 0, none⟩)] w fun e w' => e = .returned (.tuple #[]) ∧ WrAt b (.pointer (some ⟨b, 0, none⟩)) l c w' ∧ Kp b w w' := by
  rcases h with ⟨v, h1, h2, h3⟩ | ⟨v, h1, h2, h3⟩
  · refine (wcopy_fresh b w (by rw [cell_heap h1]; rfl) (by simp [World.shape?, h1]) (frozen_heap h1)).mono ?_
    rintro e w' ⟨rfl, rfl⟩
    exact ⟨rfl, ⟨v, set_block h1 rfl, own_set h2 h3, h3⟩, (Kp.refl b w).setCell 0 _⟩
  · refine (wcopy_used b w (by rw [cell_heap h1]; rfl)).mono ?_
    rintro e w' ⟨rfl, rfl⟩
    exact ⟨rfl, ⟨v, h1, h2, h3⟩, Kp.refl b w⟩
theorem byteInfo : (Tryz.prog.info? 5).map (fun i => (i.zero, i.size, i.bytes)) = some (some (.int .u8 0), 1, 1) := by kernel_rfl
theorem own_row {w : World} {B : Nat} {e : TypeId} {k : Nat} {v : Value} {n : Nat} {xs : List Value} (h : w.ownsRow B e k v n xs) : ∀ g, v.ownBlock = some g → ∃ c fz, w.heap[g]? = some (.cells c e fz) := by
  intro g hg
  rcases h.2 with ⟨rfl, _⟩ | ⟨g', c, u, rfl, _, hh, _⟩
  · cases hg
  · simp only [Value.ownBlock, Option.some.injEq] at hg
    subst hg
    exact ⟨_, _, hh⟩

set_option maxHeartbeats 2000000 in
set_option maxRecDepth 100000 in
theorem wwrite_any (b : Nat) (l : List UInt8) (c : Int) (s : ByteArray) (w : World) (h : Wr b l c w) (hs : s.size ≤ 140737488355328) (hn : l.length + s.size ≤ 200000000000000) :
    Calls Tryz.prog 47 #[.pointer (some ⟨b, 0, none⟩), .string s] w fun e w' => e = .returned (.tuple #[.int .i64 s.size, .nilIface]) ∧ Wr b (l ++ s.data.toList) c w' ∧ Kp b w w' := by
  have C := Lib.hid (wcopy_any b l c w h)
  obtain ⟨i0, hi, hz0, hz1, hz2⟩ := info_parts byteInfo
  have Hi := Lib.hid hi; have Hz0 := Lib.hid hz0; have Hz1 := Lib.hid hz1; have Hz2 := Lib.hid hz2
  clear hi hz0 hz1 hz2 h
  go_enter Tryz.func47, Tryz.ntmps47
  go_wp2_with fail
  refine C.out.mono ?_
  rintro e w1 ⟨rfl, ⟨v, h1, h2, h3⟩, k1⟩
  obtain ⟨ao, cap, rfl⟩ := own_form h2
  have hlt := lt_heap h1
  obtain ⟨v', w2, hr, ho, hg⟩ := app_str_wide w1 b 45 9 45 5 i0 Tryz.underlying45 Tryz.underlying9 Hi.out Hz0.out Hz1.out Hz2.out _ _ _ h2 s hs hn (Nat.le_of_lt hlt)
  have hb2 : w2.heap[b]? = some (.cells #[.pointer (some ⟨b, 0, none⟩), .slice ao l.length cap, .int .u8 c] 120 (0, 0)) := (hg.block b hlt (fun e => h3 e.symm)).trans h1
  have k2 : Kp b w w2 := k1.trans ⟨(Below.refl b w1).grown hg (Nat.le_of_lt hlt) (fun k hk => (h2.lt k hk).1), (Lib.OthersKept.refl _ _ _).grown hg (own_row h2)⟩
  have hne := Lib.ownBlock_ne ho hb2 (by decide)
  have HW : Hid (Wr b (l ++ s.data.toList) c (w2.setCell ⟨b, 1, none⟩ v')) := .inr ⟨v', set_block hb2 rfl, by
    refine own_set ?_ hne
    rw [byteCells_app] at ho
    have e : (l ++ s.data.toList).length = l.length + s.size := by rw [List.length_append]; congr 1
    rw [e]; exact ho, hne⟩
  have HK : Hid (Kp b w (w2.setCell ⟨b, 1, none⟩ v')) := k2.setCell 1 _
  have c0 : w1.cell? ⟨b, 0, none⟩ = some (.pointer (some ⟨b, 0, none⟩)) := by rw [cell_heap h1]; rfl
  have c1 : w1.cell? ⟨b, 1, none⟩ = some (.slice ao l.length cap) := by rw [cell_heap h1]; rfl
  have d1 : w2.cell? ⟨b, 1, none⟩ = some (.slice ao l.length cap) := by rw [cell_heap hb2]; rfl
  have f1 : w2.frozen? ⟨b, 1, none⟩ = false := frozen_heap hb2
  obtain ⟨A2, cap2, rfl⟩ := own_form ho
  clear C h1 h2 h3 k1 ho hg hb2 k2 hne Hi Hz0 Hz1 Hz2
  go_wp2_with (at_builtin; refine wpList_run (by rfl) (.tmp 12) (.tmp 13) _ _ (by rfl) (by rfl) (by rfl) hr ?_; clear hr)
  go_ret2
  exact ⟨rfl, HW.out, HK.out⟩
theorem wlen_any (b : Nat) (l : List UInt8) (c : Int) (w : World) (h : Wr b l c w) :
    Calls Tryz.prog 43 #[.pointer (some ⟨b, 0, none⟩)] w fun e w' => e = .returned (.int .i64 l.length) ∧ w = w' := by
  obtain ⟨v, hv, A, cap, rfl⟩ : ∃ v, w.cell? ⟨b, 1, none⟩ = some v ∧ ∃ A cap, v = .slice A l.length cap := by
    rcases h with ⟨v, h2, h3, _⟩ | ⟨v, h2, h3, _⟩
    all_goals
      obtain ⟨A, cap, hv⟩ := own_form h3
      exact ⟨v, by rw [cell_heap h2]; rfl, A, cap, hv⟩
  clear h
  go_enter Tryz.func43, Tryz.ntmps43
  go_wp2
  go_ret
  exact ⟨rfl, rfl⟩
set_option maxHeartbeats 2000000 in
set_option maxRecDepth 100000 in
theorem wstr_any (b : Nat) (x : UInt8) (r : List UInt8) (c : Int) (w : World) (h : Wr b (x :: r) c w) :
    Calls Tryz.prog 46 #[.pointer (some ⟨b, 0, none⟩)] w fun e w' => e = .returned (.string ⟨(x :: r).toArray⟩) ∧ Below b w w' := by
  obtain ⟨p, v, h1, h2, h3⟩ : ∃ p, WrAt b p (x :: r) c w := by
    rcases h with h | h
    · exact ⟨_, h⟩
    · exact ⟨_, h⟩
  obtain ⟨g, cap, cur, rfl, hbg, hg, hnc, hcm, hcs, htake⟩ : ∃ g cap cur, v = .slice (some ⟨g, 0, none⟩) (x :: r).length cap ∧ b ≤ g ∧ w.heap[g]? = some (.cells cur 5 (0, 0)) ∧ (x :: r).length ≤ cap ∧ cap ≤ maxLen ∧ cur.size = cap * 1 ∧ cur.toList.take ((x :: r).length * 1) = Lib.byteCells (x :: r) := by
    rcases h2.2 with ⟨_, hz⟩ | ⟨g, cap, cur, hv, rr⟩
    · simp at hz
    · exact ⟨g, cap, cur, hv, rr⟩
  have hl0 : 0 < (x :: r).length := by simp
  have c1 : w.cell? ⟨b, 1, none⟩ = some (.slice (some ⟨g, 0, none⟩) (x :: r).length cap) := by rw [cell_heap h1]; rfl
  have hSD : (Builtin.unsafeSliceData_ #[45] 175 #[.slice (some ⟨g, 0, none⟩) (x :: r).length cap]).run Tryz.prog w.drew = .ok (.pointer (some ⟨g, 0, none⟩)) w.drew := Lib.run_unsafeSliceData_row _ _ _ _ _ _ (by omega)
  have hUS : (Builtin.unsafeString_ #[175, 3] 9 #[.pointer (some ⟨g, 0, none⟩), .int .i64 (x :: r).length]).run Tryz.prog w.drew = .ok (.string ⟨(x :: r).toArray⟩) (w.drew.freeze ⟨g, 0, none⟩ (x :: r).length) := by
    refine Lib.run_unsafeString_row w.drew 175 3 9 5 Tryz.underlying175 (by kernel_rfl) g cur.size (by have hg' : w.drew.heap[g]? = some (.cells cur 5 (0, 0)) := hg; simp [World.shape?, hg']) (x :: r) (by simp) (by omega) (by unfold maxLen at hcm; omega) ?_
    intro j y hy
    exact h2.cells (g := g) rfl j (.int .u8 y.toNat) (by rw [Lib.byteCells, List.getElem?_map, hy]; rfl)
  generalize x :: r = l at *
  clear h h1 h2 h3 hg hcs htake hnc hcm hl0
  go_enter Tryz.func46, Tryz.ntmps46
  go_wp2
  go_region
  all_goals
    go_wp2
    go_ret
    exact ⟨rfl, Lib.below_freeze (Below.drew (Below.refl b w)) (p := ⟨g, 0, none⟩) hbg _⟩

theorem us_none (W : World) (q : Option Addr) : (Builtin.unsafeString_ #[175, 3] 9 #[.pointer q, .int .i64 0]).run Tryz.prog W = .ok (.string ⟨#[]⟩) W := Lib.run_unsafeString_none W _ _ _ q
set_option maxHeartbeats 2000000 in
set_option maxRecDepth 100000 in
theorem wstr_empty (b : Nat) (c : Int) (w : World) (h : Wr b [] c w) :
    Calls Tryz.prog 46 #[.pointer (some ⟨b, 0, none⟩)] w fun e w' => e = .returned (.string ⟨#[]⟩) ∧ Below b w w' := by
  have hlt := h.lt
  obtain ⟨p, v, h1, h2, h3⟩ : ∃ p, WrAt b p [] c w := by
    rcases h with h | h
    · exact ⟨_, h⟩
    · exact ⟨_, h⟩
  have hUS := us_none
  rcases h2.2 with ⟨rfl, _⟩ | ⟨g, cap, cur, rfl, hbg, hg, _, _, _, _⟩
  · have c1 : w.cell? ⟨b, 1, none⟩ = some (.slice none 0 0) := by rw [cell_heap h1]; rfl
    have hSD : (Builtin.unsafeSliceData_ #[45] 175 #[.slice none 0 0]).run Tryz.prog w.drew = .ok (.pointer none) w.drew := rfl
    clear h h1 h2 h3
    go_enter Tryz.func46, Tryz.ntmps46
    go_wp2
    go_region
    all_goals
      go_wp2
      go_ret
      exact ⟨rfl, Below.drew (Below.refl b w)⟩
  · have c1 : w.cell? ⟨b, 1, none⟩ = some (.slice (some ⟨g, 0, none⟩) 0 cap) := by rw [cell_heap h1]; rfl
    by_cases hc0 : cap = 0
    · subst hc0
      have hSD : (Builtin.unsafeSliceData_ #[45] 175 #[.slice (some ⟨g, 0, none⟩) 0 0]).run Tryz.prog w.drew = .ok (.pointer (some ⟨w.drew.heap.size, 0, none⟩)) (w.drew.alloc (.view ⟨g, 0, none⟩ 5)) :=
        Lib.run_unsafeSliceData_zero w.drew _ _ 5 Tryz.underlying175 ⟨g, 0, none⟩ 0 (5, cur.size) (by have hg' : w.drew.heap[g]? = some (.cells cur 5 (0, 0)) := hg; simp [World.shape?, hg'])
      have c3 : (w.alloc (.view ⟨g, 0, none⟩ 5)).drew.cell? ⟨b, 1, none⟩ = some (.slice (some ⟨g, 0, none⟩) 0 0) := by
        have e : (w.alloc (.view ⟨g, 0, none⟩ 5)).drew.heap[b]? = some (.cells #[p, .slice (some ⟨g, 0, none⟩) 0 0, .int .u8 c] 120 (0, 0)) := (heap_alloc_old w _ hlt).trans h1
        rw [cell_heap e]; rfl
      clear h h1 h2 h3 hg
      go_enter Tryz.func46, Tryz.ntmps46
      go_wp2
      go_region
      all_goals
        go_wp2
        go_ret
        exact ⟨rfl, (Below.drew (Below.refl b w)).alloc (Nat.le_of_lt hlt) _⟩
    · have hSD : (Builtin.unsafeSliceData_ #[45] 175 #[.slice (some ⟨g, 0, none⟩) 0 cap]).run Tryz.prog w.drew = .ok (.pointer (some ⟨g, 0, none⟩)) w.drew := Lib.run_unsafeSliceData_row _ _ _ _ _ _ hc0
      clear h h1 h2 h3 hg hc0
      go_enter Tryz.func46, Tryz.ntmps46
      go_wp2
      go_region
      all_goals
        go_wp2
        go_ret
        exact ⟨rfl, Below.drew (Below.refl b w)⟩
theorem wstring_any (b : Nat) (l : List UInt8) (c : Int) (w : World) (h : Wr b l c w) :
    Calls Tryz.prog 46 #[.pointer (some ⟨b, 0, none⟩)] w fun e w' => e = .returned (.string ⟨l.toArray⟩) ∧ Below b w w' := by
  cases l with
  | nil => exact wstr_empty b c w h
  | cons x r => exact wstr_any b x r c w h
end Go.Proofs.YtjajandjdclifaaGreatDoor
namespace Go.Proofs.YtjajandjdclifaaGreatDoor
open Go.Shelf Go.RowKit

def cloneRen : Ren := ⟨fun _ => 91, fun x => if x = 0 then 0 else if x = 3 then 3 else if x = 4 then 4 else if x = 5 then 5 else if x = 9 then 9 else if x = 37 then 45 else 175, fun x => x⟩

theorem cloneLays : LaysM.n316 Tryz.prog cloneRen where
  mixed := by kernel_rfl
  f316 := by kernel_rfl
  t0 := by kernel_rfl
  a0 := fun _ => by kernel_rfl
  z0 := fun _ => by kernel_rfl
  v0 := fun _ => by kernel_rfl
  t3 := by kernel_rfl
  a3 := fun _ => by kernel_rfl
  z3 := fun _ => by kernel_rfl
  v3 := fun _ => by kernel_rfl
  t4 := by kernel_rfl
  a4 := fun _ => by kernel_rfl
  z4 := fun _ => by kernel_rfl
  v4 := fun _ => by kernel_rfl
  t9 := by kernel_rfl
  a9 := fun _ => by kernel_rfl
  z9 := fun _ => by kernel_rfl
  v9 := fun _ => by kernel_rfl
  t37 := by kernel_rfl
  a37 := fun _ => by kernel_rfl
  z37 := fun _ => by kernel_rfl
  v37 := fun _ => by kernel_rfl
  t127 := by kernel_rfl
  a127 := fun _ => by kernel_rfl
  z127 := fun _ => by kernel_rfl
  v127 := fun _ => by kernel_rfl
  t5 := by kernel_rfl
  a5 := fun _ => by kernel_rfl
  z5 := fun _ => by kernel_rfl
  v5 := fun _ => by kernel_rfl
  i0 := by kernel_rfl
  i3 := by kernel_rfl
  i4 := by kernel_rfl
  i5 := by kernel_rfl
  i9 := by kernel_rfl
  i37 := by kernel_rfl
  i127 := by kernel_rfl

theorem slclone_any (s : ByteArray) (w : World) (hlim : s.size ≤ 281474976710656) :
    Calls Tryz.prog 91 #[.string s] w fun e w' => e = .returned (.string s) ∧ Below w.heap.size w w' :=
  Any.stringslite_Clone cloneLays s w hlim

theorem clone_any (s : ByteArray) (w : World) (hlim : s.size ≤ 281474976710656) :
    Calls Tryz.prog 52 #[.string s] w fun e w' => e = .returned (.string s) ∧ Below w.heap.size w w' := by
  go_enter Tryz.func52, Tryz.ntmps52
  go_wp2_with fail
  refine (slclone_any s _ hlim).mono ?_
  rintro e w1 ⟨rfl, b1⟩
  go_wp2
  go_ret
  exact ⟨rfl, b1⟩

end Go.Proofs.YtjajandjdclifaaGreatDoor
namespace Go.Proofs.YtjajandjdclifaaGreatDoor
open Go.RowKit

theorem slice_from (s : ByteArray) (k : Nat) (h : k ≤ s.size) (w : World) :
    (Instr.slice 9 (.string s) (some (.int .i64 (k : Int))) none none).run Tryz.prog w = .ok (.string (s.extract k s.size)) w := by
  rw [run_slice_string_from_if w 9 s .i64 _ Tryz.underlying9, if_pos (by omega)]
  rfl

theorem slice_upto (s : ByteArray) (k : Nat) (h : k ≤ s.size) (w : World) :
    (Instr.slice 9 (.string s) none (some (.int .i64 (k : Int))) none).run Tryz.prog w = .ok (.string (s.extract 0 k)) w := by
  rw [run_slice_string_to_if w 9 s .i64 _ Tryz.underlying9, if_pos (by omega)]
  rfl

set_option maxHeartbeats 400000 in
theorem begin_any (s : ByteArray) (hs : s.size ≤ maxLen) (w : World) (hT : Tabs w) :
    Calls Tryz.prog 152 #[.string s] w fun e w' => e = .returned (.tuple #[.int .i64 (TX.fin s 0), .int .i64 (TX.cnt s 0)]) ∧ Below w.heap.size w w' := by
  unfold maxLen at hs
  go_enter Tryz.func152, Tryz.ntmps152
  go_wp2
  go_loopw [4, 5] (fun e c wr => ∃ k n : Nat, k ≤ s.size ∧ n ≤ k ∧ e = .int .i64 k ∧ c = .int .i64 n ∧ Hid (TX.fin s k = TX.fin s 0) ∧ Hid (n + TX.cnt s k = TX.cnt s 0) ∧ Below w.heap.size w wr)
    (fun e _ _ => s.size - (intOf e).toNat)
  case atStart => exact ⟨0, 0, by omega, by omega, rfl, rfl, Lib.hid rfl, Lib.hid (Nat.zero_add _), Below.refl _ _⟩
  case round =>
    obtain ⟨k, n, hk, hn, rfl, rfl, hf, hc, hb⟩ := hrel
    have hsl := slice_from s k hk
    have hT' := hT.below hb
    have hd := TX.chr_drop s k hk
    by_cases h : TX.chr s k = 0
    · have H1 := Lib.hid (TX.fin_no h)
      have H2 := Lib.hid (TX.cnt_no h)
      have C := first_no (s.extract k s.size) (hd.trans h) wr hT'
      clear h hd
      go_wp2_with fail
      refine C.mono ?_
      rintro e w1 ⟨rfl, b1⟩
      go_wp2
      go_ret2
      refine ⟨?_, hb.trans (b1.mono hb.size)⟩
      rw [← hf.out, H1.out, ← hc.out, H2.out]
      rfl
    · have H1 := Lib.hid (TX.fin_yes h)
      have H2 := Lib.hid (TX.cnt_yes h)
      have h4 := TX.chr_four s k
      have hl := TX.chr_le s k hk
      have hp : 0 < TX.chr s k := by omega
      have C := first_yes (s.extract k s.size) (by rw [hd]; exact h) wr hT'
      rw [hd] at C
      clear h hd
      generalize (Lib.decodeGo (s.extract k s.size)).1 = r at C
      generalize TX.chr s k = z at *
      have e1 : ((r : Int) == -1) = false := by rw [beq_eq_false_iff_ne]; omega
      go_wp2_with fail
      refine C.mono ?_
      rintro e w1 ⟨rfl, b1⟩
      go_wp2
      go_roundw
      case rel => exact ⟨k + z, n + 1, by omega, by omega, by go_num, by go_num, Lib.hid (H1.out.symm.trans hf.out), Lib.hid (by rw [← hc.out, H2.out]; omega), hb.trans (b1.mono hb.size)⟩
      case measure => simp [intOf]; omega

end Go.Proofs.YtjajandjdclifaaGreatDoor
namespace Go.Proofs.YtjajandjdclifaaGreatDoor
open Go.RowKit

theorem make1 (w : World) : (Instr.makeSlice 45 (.int .i64 1) (.int .i64 1)).run Tryz.prog w = .ok (.slice (some ⟨w.heap.size, 0, none⟩) 1 1) (w.alloc (.cells #[.int .u8 0] 5)) := by kernel_rfl
theorem make2 (w : World) : (Instr.makeSlice 45 (.int .i64 2) (.int .i64 2)).run Tryz.prog w = .ok (.slice (some ⟨w.heap.size, 0, none⟩) 2 2) (w.alloc (.cells #[.int .u8 0, .int .u8 0] 5)) := by kernel_rfl
theorem make3 (w : World) : (Instr.makeSlice 45 (.int .i64 3) (.int .i64 3)).run Tryz.prog w = .ok (.slice (some ⟨w.heap.size, 0, none⟩) 3 3) (w.alloc (.cells #[.int .u8 0, .int .u8 0, .int .u8 0] 5)) := by kernel_rfl
theorem make4 (w : World) : (Instr.makeSlice 45 (.int .i64 4) (.int .i64 4)).run Tryz.prog w = .ok (.slice (some ⟨w.heap.size, 0, none⟩) 4 4) (w.alloc (.cells #[.int .u8 0, .int .u8 0, .int .u8 0, .int .u8 0] 5)) := by kernel_rfl

theorem conv_top (w : World) (xs : List Int) :
    (convert 45 9 (.slice (some ⟨w.heap.size, 0, none⟩) xs.length xs.length)).run Tryz.prog (w.alloc (.cells (xs.map (Value.int .u8)).toArray 5)) = .ok (.string (strOfNums xs)) (w.alloc (.cells (xs.map (Value.int .u8)).toArray 5)) := by
  refine run_convert_bytes_arg _ 45 5 Tryz.underlying45 Tryz.underlying5 w.heap.size 0 xs.length xs.length xs rfl (fun i hi => ?_) 9 Tryz.underlying9
  rw [World.cell?_alloc_at _ _ _ _ rfl]
  simp [List.getD, List.getElem?_eq_getElem hi]

theorem conv1 (w : World) (a : Int) : (convert 45 9 (.slice (some ⟨w.heap.size, 0, none⟩) 1 1)).run Tryz.prog (w.alloc (.cells #[.int .u8 a] 5)) = .ok (.string (strOfNums [a])) (w.alloc (.cells #[.int .u8 a] 5)) := conv_top w [a]
theorem conv1_at (w : World) (b : Nat) (a : Int) (hb : b = w.heap.size) : (convert 45 9 (.slice (some ⟨b, 0, none⟩) 1 1)).run Tryz.prog (w.alloc (.cells #[.int .u8 a] 5)) = .ok (.string (strOfNums [a])) (w.alloc (.cells #[.int .u8 a] 5)) := by
  subst hb; exact conv1 w a
theorem conv2 (w : World) (a b : Int) : (convert 45 9 (.slice (some ⟨w.heap.size, 0, none⟩) 2 2)).run Tryz.prog (w.alloc (.cells #[.int .u8 a, .int .u8 b] 5)) = .ok (.string (strOfNums [a, b])) (w.alloc (.cells #[.int .u8 a, .int .u8 b] 5)) := conv_top w [a, b]
theorem conv3 (w : World) (a b c : Int) : (convert 45 9 (.slice (some ⟨w.heap.size, 0, none⟩) 3 3)).run Tryz.prog (w.alloc (.cells #[.int .u8 a, .int .u8 b, .int .u8 c] 5)) = .ok (.string (strOfNums [a, b, c])) (w.alloc (.cells #[.int .u8 a, .int .u8 b, .int .u8 c] 5)) := conv_top w [a, b, c]
theorem conv4 (w : World) (a b c d : Int) : (convert 45 9 (.slice (some ⟨w.heap.size, 0, none⟩) 4 4)).run Tryz.prog (w.alloc (.cells #[.int .u8 a, .int .u8 b, .int .u8 c, .int .u8 d] 5)) = .ok (.string (strOfNums [a, b, c, d])) (w.alloc (.cells #[.int .u8 a, .int .u8 b, .int .u8 c, .int .u8 d] 5)) := conv_top w [a, b, c, d]

theorem str_app (xs ys : List Int) : strOfNums xs ++ strOfNums ys = strOfNums (xs ++ ys) := by
  apply ByteArray.ext
  simp [strOfNums, ByteArray.data_append]
theorem str_nil : (⟨#[]⟩ : ByteArray) = strOfNums [] := rfl

theorem or128_fin : ∀ a : Fin 256, (a.val ||| 128) = a.val % 128 + 128 := by decide +kernel
theorem and127_fin : ∀ a : Fin 256, (a.val &&& 127) = a.val % 128 := by decide +kernel
theorem u8_or128 (x : Int) (h0 : 0 ≤ x) (h1 : x < 256) : bits .or .u8 x 128 = x % 128 + 128 := by
  rw [u8_or x 128 h0 h1 (by decide) (by decide)]
  have := or128_fin ⟨x.toNat, by omega⟩
  simp only [show (128 : Int).toNat = 128 from rfl] at this ⊢
  omega
theorem u8_and127 (x : Int) (h0 : 0 ≤ x) (h1 : x < 256) : bits .and .u8 x 127 = x % 128 := by
  rw [u8_and x 127 h0 h1 (by decide) (by decide)]
  have := and127_fin ⟨x.toNat, by omega⟩
  simp only [show (127 : Int).toNat = 127 from rfl] at this ⊢
  omega

theorem i64_and128_fin : ∀ a : Fin 256, bits .and .i64 (a.val : Int) 128 = if a.val < 128 then 0 else 128 := by decide +kernel
theorem i64_and128 (x : Int) (h0 : 0 ≤ x) (h1 : x < 256) : bits .and .i64 x 128 = if x < 128 then 0 else 128 := by
  have := i64_and128_fin ⟨x.toNat, by omega⟩
  simp only [Int.toNat_of_nonneg h0] at this
  rw [this]
  by_cases h : x < 128
  · rw [if_pos (by omega), if_pos h]
  · rw [if_neg (by omega), if_neg h]
theorem wraps_i64' (n : Int) (h0 : 0 ≤ n) (h1 : n < 2 ^ 62) : IntKind.i64.wrap n = n := by
  rw [IntKind.wrap_i64]; omega
theorem i64_or (i : Nat) (x y : Int) (hx₀ : 0 ≤ x) (hx : x % 2 ^ i = 0) (hx₁ : x < 2 ^ 62) (hy₀ : 0 ≤ y) (hy : y < 2 ^ i) (hy₁ : y < 2 ^ 62) : bits .or .i64 y x = y + x := by
  have hc : bits .or .i64 y x = bits .or .i64 x y := by simp only [bits, BitVec.or_comm]
  rw [hc, bits_join .i64 62 (by decide) wraps_i64' i x y hx₀ hx hx₁ hy₀ hy hy₁]
  omega
theorem byte_lt (s : ByteArray) (k : Nat) (h : k < s.size) : ((s[k]'h).toNat : Int) < 256 := by
  have := (s[k]'h).toNat_lt
  omega

theorem ret_int {k : IntKind} {a b : Int} (h : a = b) : Ending.returned (.int k a) = .returned (.int k b) := by rw [h]

theorem ret_bytes {k : IntKind} {xs ys : List Int} {a b : Int} (h : xs = ys) (g : a = b) : Ending.returned (.tuple #[.string (strOfNums xs), .int k a]) = .returned (.tuple #[.string (strOfNums ys), .int k b]) := by rw [h, g]

theorem ret_str {k : IntKind} {x : ByteArray} {ys : List Int} {a b : Int} (h : x = strOfNums ys) (g : a = b) : Ending.returned (.tuple #[.string x, .int k a]) = .returned (.tuple #[.string (strOfNums ys), .int k b]) := by rw [h, g]

theorem ret_three {k : IntKind} {a b c : Int} {t : Int × Int × Int} (h : t = (a, b, c)) : Ending.returned (.tuple #[.int .i64 a, .int .i64 b, .int k c]) = .returned (.tuple #[.int .i64 t.1, .int .i64 t.2.1, .int k t.2.2]) := by rw [h]

end Go.Proofs.YtjajandjdclifaaGreatDoor
namespace Go.Proofs.YtjajandjdclifaaGreatDoor
open Go.RowKit

namespace TX
/-- Is there a byte from one up to another at a place? -/
def tl (s : ByteArray) (i a b : Nat) : Bool := decide (i < s.size ∧ a ≤ by_ s i ∧ by_ s i ≤ b)

theorem tl_true {s : ByteArray} {i a b : Nat} : tl s i a b = true ↔ i < s.size ∧ a ≤ by_ s i ∧ by_ s i ≤ b := by
  unfold tl
  exact decide_eq_true_iff

/-- A character's length by what is known of the bytes behind its first one. -/
def charB (b : Nat) (o t u h3 l3 h4 l4 : Bool) : Nat :=
  if 1 ≤ b ∧ b ≤ 127 then 1
  else if 194 ≤ b ∧ b ≤ 223 ∧ o = true then 2
  else if 224 ≤ b ∧ b ≤ 239 ∧ o = true ∧ t = true then (if (b = 224 ∧ h3 = false) ∨ (b = 237 ∧ l3 = false) then 0 else 3)
  else if 240 ≤ b ∧ b ≤ 244 ∧ o = true ∧ t = true ∧ u = true then (if (b = 240 ∧ h4 = false) ∨ (b = 244 ∧ l4 = false) then 0 else 4)
  else 0

theorem chr_tl (s : ByteArray) (i : Nat) (hi : i < s.size) :
    chr s i = charB (by_ s i) (tl s (i + 1) 128 191) (tl s (i + 2) 128 191) (tl s (i + 3) 128 191) (tl s (i + 1) 160 191) (tl s (i + 1) 128 159) (tl s (i + 1) 144 191) (tl s (i + 1) 128 143) := by
  unfold chr charB cl
  rw [if_pos hi]
  have f : ∀ i a b, tl s i a b = false ↔ ¬ (i < s.size ∧ a ≤ by_ s i ∧ by_ s i ≤ b) := fun i a b => by
    rw [← Bool.not_eq_true, tl_true]
  simp only [tl_true, f]
  repeat' split
  all_goals omega

theorem tl_get {s : ByteArray} {i : Nat} (a b : Nat) (h : i < s.size) : tl s i a b = (decide ((a : Int) ≤ ((s[i]'h).toNat : Int)) && decide (((s[i]'h).toNat : Int) ≤ b)) := by
  rw [Bool.eq_iff_iff, tl_true, by_get s i h]
  simp
  omega
theorem tl_out {s : ByteArray} {i : Nat} (a b : Nat) (h : ¬ i < s.size) : tl s i a b = false := by
  rw [← Bool.not_eq_true, tl_true]
  omega
end TX

theorem ret_bool {a b : Bool} (h : a = b) : Ending.returned (.bool a) = .returned (.bool b) := by rw [h]

set_option maxRecDepth 100000 in
set_option maxHeartbeats 400000 in
theorem reftail_any (s : ByteArray) (x : Int) (i a b : Nat) (hx : x = i) (w : World) :
    Calls Tryz.prog 154 #[.string s, .int .i64 x, .int .i64 a, .int .i64 b] w fun e w' => e = .returned (.bool (TX.tl s i a b)) ∧ w = w' := by
  subst hx
  by_cases h : i < s.size
  · have H := Lib.hid (TX.tl_get a b h)
    have hb := byte_lt s i h
    go_enter Tryz.func154, Tryz.ntmps154
    go_wp2
    all_goals
      go_ret
      refine ⟨ret_bool ?_, rfl⟩
      rw [H.out, Bool.eq_iff_iff]
      simp
      omega
  · rw [TX.tl_out a b h]
    go_enter Tryz.func154, Tryz.ntmps154
    go_wp2
    go_ret
    exact ⟨rfl, rfl⟩

set_option maxRecDepth 100000 in
set_option maxHeartbeats 4000000 in
theorem refchar_any (s : ByteArray) (i : Nat) (hi : i < s.size) (hs : s.size ≤ 140737488351232) (w : World) :
    Calls Tryz.prog 146 #[.string s, .int .i64 i] w fun e w' => e = .returned (.int .i64 (TX.chr s i)) ∧ w = w' := by
  have key := TX.chr_tl s i hi
  rw [TX.by_get s i hi] at key
  have c1 := reftail_any s ((i : Int) + 1) (i + 1) 128 191 (by omega) w
  have c2 := reftail_any s ((i : Int) + 2) (i + 2) 128 191 (by omega) w
  have c3 := reftail_any s ((i : Int) + 3) (i + 3) 128 191 (by omega) w
  have c4 := reftail_any s ((i : Int) + 1) (i + 1) 160 191 (by omega) w
  have c5 := reftail_any s ((i : Int) + 1) (i + 1) 128 159 (by omega) w
  have c6 := reftail_any s ((i : Int) + 1) (i + 1) 144 191 (by omega) w
  have c7 := reftail_any s ((i : Int) + 1) (i + 1) 128 143 (by omega) w
  generalize TX.tl s (i + 1) 128 191 = o at *
  generalize TX.tl s (i + 2) 128 191 = t at *
  generalize TX.tl s (i + 3) 128 191 = u at *
  generalize TX.tl s (i + 1) 160 191 = h3 at *
  generalize TX.tl s (i + 1) 128 159 = l3 at *
  generalize TX.tl s (i + 1) 144 191 = h4 at *
  generalize TX.tl s (i + 1) 128 143 = l4 at *
  unfold TX.charB at key
  have hb := byte_lt s i hi
  rcases (show (1 ≤ (s[i]'hi).toNat ∧ (s[i]'hi).toNat ≤ 127) ∨ (194 ≤ (s[i]'hi).toNat ∧ (s[i]'hi).toNat ≤ 223) ∨ (224 ≤ (s[i]'hi).toNat ∧ (s[i]'hi).toNat ≤ 239) ∨ (240 ≤ (s[i]'hi).toNat ∧ (s[i]'hi).toNat ≤ 244) ∨
      ((s[i]'hi).toNat < 1) ∨ (128 ≤ (s[i]'hi).toNat ∧ (s[i]'hi).toNat ≤ 193) ∨ 245 ≤ (s[i]'hi).toNat by omega) with ⟨g, g'⟩ | ⟨g, g'⟩ | ⟨g, g'⟩ | ⟨g, g'⟩ | g | ⟨g, g'⟩ | g
  · -- one byte
    rw [if_pos (by omega)] at key
    have K := Lib.hid key
    clear key c1 c2 c3 c4 c5 c6 c7
    have q1 : (1 : Int) ≤ ((s[i]'hi).toNat : Int) := by omega
    have q2 : ((s[i]'hi).toNat : Int) ≤ 127 := by omega
    go_enter Tryz.func146, Tryz.ntmps146
    go_wp2
    go_ret
    exact ⟨ret_int (by rw [K.out]; rfl), rfl⟩
  · -- two
    rw [if_neg (by omega)] at key
    have q1 : (194 : Int) ≤ ((s[i]'hi).toNat : Int) := by omega
    have q2 : ((s[i]'hi).toNat : Int) ≤ 223 := by omega
    cases o
    · rw [if_neg (by simp), if_neg (by omega), if_neg (by omega)] at key
      have K := Lib.hid key
      clear key c4 c5 c6 c7
      go_enter Tryz.func146, Tryz.ntmps146
      go_wp2_with fail
      refine c1.mono ?_
      rintro e w' ⟨rfl, rfl⟩
      clear c1
      go_wp2_with fail
      refine c2.mono ?_
      rintro e w' ⟨rfl, rfl⟩
      clear c2
      go_wp2_with fail
      refine c3.mono ?_
      rintro e w' ⟨rfl, rfl⟩
      clear c3
      go_wp2
      go_ret
      exact ⟨ret_int (by rw [K.out]; rfl), rfl⟩
    · rw [if_pos ⟨by omega, by omega, rfl⟩] at key
      have K := Lib.hid key
      clear key c4 c5 c6 c7
      go_enter Tryz.func146, Tryz.ntmps146
      go_wp2_with fail
      refine c1.mono ?_
      rintro e w' ⟨rfl, rfl⟩
      clear c1
      go_wp2_with fail
      refine c2.mono ?_
      rintro e w' ⟨rfl, rfl⟩
      clear c2
      go_wp2_with fail
      refine c3.mono ?_
      rintro e w' ⟨rfl, rfl⟩
      clear c3
      go_wp2
      go_ret
      exact ⟨ret_int (by rw [K.out]; rfl), rfl⟩
  · -- three
    rw [if_neg (by omega), if_neg (by omega)] at key
    have q1 : (224 : Int) ≤ ((s[i]'hi).toNat : Int) := by omega
    have q2 : ((s[i]'hi).toNat : Int) ≤ 239 := by omega
    by_cases hot : o = true ∧ t = true
    · obtain ⟨rfl, rfl⟩ := hot
      rw [if_pos ⟨by omega, by omega, rfl, rfl⟩] at key
      by_cases hz : ((s[i]'hi).toNat = 224 ∧ h3 = false) ∨ ((s[i]'hi).toNat = 237 ∧ l3 = false)
      · rw [if_pos hz] at key
        have K := Lib.hid key
        clear key c6 c7
        rcases hz with ⟨e1, rfl⟩ | ⟨e1, rfl⟩
        · have y1 : (((s[i]'hi).toNat : Int) == 224) = true := by rw [beq_iff_eq]; omega
          clear e1
          go_enter Tryz.func146, Tryz.ntmps146
          go_wp2_with fail
          refine c1.mono ?_
          rintro e w' ⟨rfl, rfl⟩
          clear c1
          go_wp2_with fail
          refine c2.mono ?_
          rintro e w' ⟨rfl, rfl⟩
          clear c2
          go_wp2_with fail
          refine c3.mono ?_
          rintro e w' ⟨rfl, rfl⟩
          clear c3
          go_wp2_with fail
          refine c4.mono ?_
          rintro e w' ⟨rfl, rfl⟩
          clear c4
          go_wp2_with fail
          refine c5.mono ?_
          rintro e w' ⟨rfl, rfl⟩
          clear c5
          go_wp2
          go_ret
          exact ⟨ret_int (by rw [K.out]; rfl), rfl⟩
        · have y1 : (((s[i]'hi).toNat : Int) == 224) = false := by rw [beq_eq_false_iff_ne]; omega
          have y2 : (((s[i]'hi).toNat : Int) == 237) = true := by rw [beq_iff_eq]; omega
          clear e1
          go_enter Tryz.func146, Tryz.ntmps146
          go_wp2_with fail
          refine c1.mono ?_
          rintro e w' ⟨rfl, rfl⟩
          clear c1
          go_wp2_with fail
          refine c2.mono ?_
          rintro e w' ⟨rfl, rfl⟩
          clear c2
          go_wp2_with fail
          refine c3.mono ?_
          rintro e w' ⟨rfl, rfl⟩
          clear c3
          go_wp2_with fail
          refine c4.mono ?_
          rintro e w' ⟨rfl, rfl⟩
          clear c4
          go_wp2_with fail
          refine c5.mono ?_
          rintro e w' ⟨rfl, rfl⟩
          clear c5
          go_wp2
          go_ret
          exact ⟨ret_int (by rw [K.out]; rfl), rfl⟩
      · rw [if_neg hz] at key
        have K := Lib.hid key
        clear key c6 c7
        by_cases e1 : (s[i]'hi).toNat = 224
        · obtain rfl : h3 = true := by cases h3 <;> simp_all
          have y1 : (((s[i]'hi).toNat : Int) == 224) = true := by rw [beq_iff_eq]; omega
          have y2 : (((s[i]'hi).toNat : Int) == 237) = false := by rw [beq_eq_false_iff_ne]; omega
          clear e1 hz
          go_enter Tryz.func146, Tryz.ntmps146
          go_wp2_with fail
          refine c1.mono ?_
          rintro e w' ⟨rfl, rfl⟩
          clear c1
          go_wp2_with fail
          refine c2.mono ?_
          rintro e w' ⟨rfl, rfl⟩
          clear c2
          go_wp2_with fail
          refine c3.mono ?_
          rintro e w' ⟨rfl, rfl⟩
          clear c3
          go_wp2_with fail
          refine c4.mono ?_
          rintro e w' ⟨rfl, rfl⟩
          clear c4
          go_wp2_with fail
          refine c5.mono ?_
          rintro e w' ⟨rfl, rfl⟩
          clear c5
          go_wp2
          go_ret
          exact ⟨ret_int (by rw [K.out]; rfl), rfl⟩
        · have y1 : (((s[i]'hi).toNat : Int) == 224) = false := by rw [beq_eq_false_iff_ne]; omega
          by_cases e2 : (s[i]'hi).toNat = 237
          · obtain rfl : l3 = true := by cases l3 <;> simp_all
            have y2 : (((s[i]'hi).toNat : Int) == 237) = true := by rw [beq_iff_eq]; omega
            clear e1 e2 hz
            go_enter Tryz.func146, Tryz.ntmps146
            go_wp2_with fail
            refine c1.mono ?_
            rintro e w' ⟨rfl, rfl⟩
            clear c1
            go_wp2_with fail
            refine c2.mono ?_
            rintro e w' ⟨rfl, rfl⟩
            clear c2
            go_wp2_with fail
            refine c3.mono ?_
            rintro e w' ⟨rfl, rfl⟩
            clear c3
            go_wp2_with fail
            refine c4.mono ?_
            rintro e w' ⟨rfl, rfl⟩
            clear c4
            go_wp2_with fail
            refine c5.mono ?_
            rintro e w' ⟨rfl, rfl⟩
            clear c5
            go_wp2
            go_ret
            exact ⟨ret_int (by rw [K.out]; rfl), rfl⟩
          · have y2 : (((s[i]'hi).toNat : Int) == 237) = false := by rw [beq_eq_false_iff_ne]; omega
            clear e1 e2 hz
            go_enter Tryz.func146, Tryz.ntmps146
            go_wp2_with fail
            refine c1.mono ?_
            rintro e w' ⟨rfl, rfl⟩
            clear c1
            go_wp2_with fail
            refine c2.mono ?_
            rintro e w' ⟨rfl, rfl⟩
            clear c2
            go_wp2_with fail
            refine c3.mono ?_
            rintro e w' ⟨rfl, rfl⟩
            clear c3
            go_wp2_with fail
            refine c4.mono ?_
            rintro e w' ⟨rfl, rfl⟩
            clear c4
            go_wp2_with fail
            refine c5.mono ?_
            rintro e w' ⟨rfl, rfl⟩
            clear c5
            go_wp2
            go_ret
            exact ⟨ret_int (by rw [K.out]; rfl), rfl⟩
    · rw [if_neg (fun g => hot ⟨g.2.2.1, g.2.2.2⟩), if_neg (by omega)] at key
      have K := Lib.hid key
      clear key c4 c5 c6 c7
      cases o
      · clear hot
        go_enter Tryz.func146, Tryz.ntmps146
        go_wp2_with fail
        refine c1.mono ?_
        rintro e w' ⟨rfl, rfl⟩
        clear c1
        go_wp2_with fail
        refine c2.mono ?_
        rintro e w' ⟨rfl, rfl⟩
        clear c2
        go_wp2_with fail
        refine c3.mono ?_
        rintro e w' ⟨rfl, rfl⟩
        clear c3
        go_wp2
        go_ret
        exact ⟨ret_int (by rw [K.out]; rfl), rfl⟩
      · obtain rfl : t = false := by cases t <;> simp_all
        clear hot
        go_enter Tryz.func146, Tryz.ntmps146
        go_wp2_with fail
        refine c1.mono ?_
        rintro e w' ⟨rfl, rfl⟩
        clear c1
        go_wp2_with fail
        refine c2.mono ?_
        rintro e w' ⟨rfl, rfl⟩
        clear c2
        go_wp2_with fail
        refine c3.mono ?_
        rintro e w' ⟨rfl, rfl⟩
        clear c3
        go_wp2
        go_ret
        exact ⟨ret_int (by rw [K.out]; rfl), rfl⟩
  · -- four
    rw [if_neg (by omega), if_neg (by omega), if_neg (by omega)] at key
    have q1 : (240 : Int) ≤ ((s[i]'hi).toNat : Int) := by omega
    have q2 : ((s[i]'hi).toNat : Int) ≤ 244 := by omega
    by_cases hot : o = true ∧ t = true ∧ u = true
    · obtain ⟨rfl, rfl, rfl⟩ := hot
      rw [if_pos ⟨by omega, by omega, rfl, rfl, rfl⟩] at key
      by_cases hz : ((s[i]'hi).toNat = 240 ∧ h4 = false) ∨ ((s[i]'hi).toNat = 244 ∧ l4 = false)
      · rw [if_pos hz] at key
        have K := Lib.hid key
        clear key c4 c5
        rcases hz with ⟨e1, rfl⟩ | ⟨e1, rfl⟩
        · have y1 : (((s[i]'hi).toNat : Int) == 240) = true := by rw [beq_iff_eq]; omega
          clear e1
          go_enter Tryz.func146, Tryz.ntmps146
          go_wp2_with fail
          refine c1.mono ?_
          rintro e w' ⟨rfl, rfl⟩
          clear c1
          go_wp2_with fail
          refine c2.mono ?_
          rintro e w' ⟨rfl, rfl⟩
          clear c2
          go_wp2_with fail
          refine c3.mono ?_
          rintro e w' ⟨rfl, rfl⟩
          clear c3
          go_wp2_with fail
          refine c6.mono ?_
          rintro e w' ⟨rfl, rfl⟩
          clear c6
          go_wp2_with fail
          refine c7.mono ?_
          rintro e w' ⟨rfl, rfl⟩
          clear c7
          go_wp2
          go_ret
          exact ⟨ret_int (by rw [K.out]; rfl), rfl⟩
        · have y1 : (((s[i]'hi).toNat : Int) == 240) = false := by rw [beq_eq_false_iff_ne]; omega
          have y2 : (((s[i]'hi).toNat : Int) == 244) = true := by rw [beq_iff_eq]; omega
          clear e1
          go_enter Tryz.func146, Tryz.ntmps146
          go_wp2_with fail
          refine c1.mono ?_
          rintro e w' ⟨rfl, rfl⟩
          clear c1
          go_wp2_with fail
          refine c2.mono ?_
          rintro e w' ⟨rfl, rfl⟩
          clear c2
          go_wp2_with fail
          refine c3.mono ?_
          rintro e w' ⟨rfl, rfl⟩
          clear c3
          go_wp2_with fail
          refine c6.mono ?_
          rintro e w' ⟨rfl, rfl⟩
          clear c6
          go_wp2_with fail
          refine c7.mono ?_
          rintro e w' ⟨rfl, rfl⟩
          clear c7
          go_wp2
          go_ret
          exact ⟨ret_int (by rw [K.out]; rfl), rfl⟩
      · rw [if_neg hz] at key
        have K := Lib.hid key
        clear key c4 c5
        by_cases e1 : (s[i]'hi).toNat = 240
        · obtain rfl : h4 = true := by cases h4 <;> simp_all
          have y1 : (((s[i]'hi).toNat : Int) == 240) = true := by rw [beq_iff_eq]; omega
          have y2 : (((s[i]'hi).toNat : Int) == 244) = false := by rw [beq_eq_false_iff_ne]; omega
          clear e1 hz
          go_enter Tryz.func146, Tryz.ntmps146
          go_wp2_with fail
          refine c1.mono ?_
          rintro e w' ⟨rfl, rfl⟩
          clear c1
          go_wp2_with fail
          refine c2.mono ?_
          rintro e w' ⟨rfl, rfl⟩
          clear c2
          go_wp2_with fail
          refine c3.mono ?_
          rintro e w' ⟨rfl, rfl⟩
          clear c3
          go_wp2_with fail
          refine c6.mono ?_
          rintro e w' ⟨rfl, rfl⟩
          clear c6
          go_wp2_with fail
          refine c7.mono ?_
          rintro e w' ⟨rfl, rfl⟩
          clear c7
          go_wp2
          go_ret
          exact ⟨ret_int (by rw [K.out]; rfl), rfl⟩
        · have y1 : (((s[i]'hi).toNat : Int) == 240) = false := by rw [beq_eq_false_iff_ne]; omega
          by_cases e2 : (s[i]'hi).toNat = 244
          · obtain rfl : l4 = true := by cases l4 <;> simp_all
            have y2 : (((s[i]'hi).toNat : Int) == 244) = true := by rw [beq_iff_eq]; omega
            clear e1 e2 hz
            go_enter Tryz.func146, Tryz.ntmps146
            go_wp2_with fail
            refine c1.mono ?_
            rintro e w' ⟨rfl, rfl⟩
            clear c1
            go_wp2_with fail
            refine c2.mono ?_
            rintro e w' ⟨rfl, rfl⟩
            clear c2
            go_wp2_with fail
            refine c3.mono ?_
            rintro e w' ⟨rfl, rfl⟩
            clear c3
            go_wp2_with fail
            refine c6.mono ?_
            rintro e w' ⟨rfl, rfl⟩
            clear c6
            go_wp2_with fail
            refine c7.mono ?_
            rintro e w' ⟨rfl, rfl⟩
            clear c7
            go_wp2
            go_ret
            exact ⟨ret_int (by rw [K.out]; rfl), rfl⟩
          · have y2 : (((s[i]'hi).toNat : Int) == 244) = false := by rw [beq_eq_false_iff_ne]; omega
            clear e1 e2 hz
            go_enter Tryz.func146, Tryz.ntmps146
            go_wp2_with fail
            refine c1.mono ?_
            rintro e w' ⟨rfl, rfl⟩
            clear c1
            go_wp2_with fail
            refine c2.mono ?_
            rintro e w' ⟨rfl, rfl⟩
            clear c2
            go_wp2_with fail
            refine c3.mono ?_
            rintro e w' ⟨rfl, rfl⟩
            clear c3
            go_wp2_with fail
            refine c6.mono ?_
            rintro e w' ⟨rfl, rfl⟩
            clear c6
            go_wp2_with fail
            refine c7.mono ?_
            rintro e w' ⟨rfl, rfl⟩
            clear c7
            go_wp2
            go_ret
            exact ⟨ret_int (by rw [K.out]; rfl), rfl⟩
    · rw [if_neg (fun g => hot ⟨g.2.2.1, g.2.2.2.1, g.2.2.2.2⟩)] at key
      have K := Lib.hid key
      clear key c4 c5 c6 c7
      cases o
      · clear hot
        go_enter Tryz.func146, Tryz.ntmps146
        go_wp2_with fail
        refine c1.mono ?_
        rintro e w' ⟨rfl, rfl⟩
        clear c1
        go_wp2_with fail
        refine c2.mono ?_
        rintro e w' ⟨rfl, rfl⟩
        clear c2
        go_wp2_with fail
        refine c3.mono ?_
        rintro e w' ⟨rfl, rfl⟩
        clear c3
        go_wp2
        go_ret
        exact ⟨ret_int (by rw [K.out]; rfl), rfl⟩
      · cases t
        · clear hot
          go_enter Tryz.func146, Tryz.ntmps146
          go_wp2_with fail
          refine c1.mono ?_
          rintro e w' ⟨rfl, rfl⟩
          clear c1
          go_wp2_with fail
          refine c2.mono ?_
          rintro e w' ⟨rfl, rfl⟩
          clear c2
          go_wp2_with fail
          refine c3.mono ?_
          rintro e w' ⟨rfl, rfl⟩
          clear c3
          go_wp2
          go_ret
          exact ⟨ret_int (by rw [K.out]; rfl), rfl⟩
        · obtain rfl : u = false := by cases u <;> simp_all
          clear hot
          go_enter Tryz.func146, Tryz.ntmps146
          go_wp2_with fail
          refine c1.mono ?_
          rintro e w' ⟨rfl, rfl⟩
          clear c1
          go_wp2_with fail
          refine c2.mono ?_
          rintro e w' ⟨rfl, rfl⟩
          clear c2
          go_wp2_with fail
          refine c3.mono ?_
          rintro e w' ⟨rfl, rfl⟩
          clear c3
          go_wp2
          go_ret
          exact ⟨ret_int (by rw [K.out]; rfl), rfl⟩
  all_goals
    rw [if_neg (by omega), if_neg (by omega), if_neg (by omega), if_neg (by omega)] at key
    have K := Lib.hid key
    clear key c4 c5 c6 c7
  · have q1 : ((s[i]'hi).toNat : Int) < 1 := by omega
    go_enter Tryz.func146, Tryz.ntmps146
    go_wp2_with fail
    refine c1.mono ?_
    rintro e w' ⟨rfl, rfl⟩
    clear c1
    go_wp2_with fail
    refine c2.mono ?_
    rintro e w' ⟨rfl, rfl⟩
    clear c2
    go_wp2_with fail
    refine c3.mono ?_
    rintro e w' ⟨rfl, rfl⟩
    clear c3
    go_wp2
    go_ret
    exact ⟨ret_int (by rw [K.out]; rfl), rfl⟩
  · have q1 : (128 : Int) ≤ ((s[i]'hi).toNat : Int) := by omega
    have q2 : ((s[i]'hi).toNat : Int) ≤ 193 := by omega
    go_enter Tryz.func146, Tryz.ntmps146
    go_wp2_with fail
    refine c1.mono ?_
    rintro e w' ⟨rfl, rfl⟩
    clear c1
    go_wp2_with fail
    refine c2.mono ?_
    rintro e w' ⟨rfl, rfl⟩
    clear c2
    go_wp2_with fail
    refine c3.mono ?_
    rintro e w' ⟨rfl, rfl⟩
    clear c3
    go_wp2
    go_ret
    exact ⟨ret_int (by rw [K.out]; rfl), rfl⟩
  · have q1 : (245 : Int) ≤ ((s[i]'hi).toNat : Int) := by omega
    go_enter Tryz.func146, Tryz.ntmps146
    go_wp2_with fail
    refine c1.mono ?_
    rintro e w' ⟨rfl, rfl⟩
    clear c1
    go_wp2_with fail
    refine c2.mono ?_
    rintro e w' ⟨rfl, rfl⟩
    clear c2
    go_wp2_with fail
    refine c3.mono ?_
    rintro e w' ⟨rfl, rfl⟩
    clear c3
    go_wp2
    go_ret
    exact ⟨ret_int (by rw [K.out]; rfl), rfl⟩

end Go.Proofs.YtjajandjdclifaaGreatDoor
