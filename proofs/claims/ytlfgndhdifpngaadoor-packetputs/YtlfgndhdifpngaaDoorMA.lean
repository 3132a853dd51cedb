/- The writer's lists.; The flags of a packet's first byte; its parts.; The flags of a packet's first byte, told by the writer; its parts. (Written by wip/tools/gen_parts.py.); A packet's bytes: the program's Put.; The reader of a packet: leaving by a panic; its small methods.; Reading within a part of bytes, and properties read one behind the other: told plainly. No function of the program is named here.; The two functions that read a number answer the same number, place and code.; The document's function that reads a number; both, at every place.; A property's value, read: the program's.; One property, read: the program's.; Properties read one behind the other: the program's Get.; The codes of Get, and how many properties it tells at most.; The reader's numbers with a meaning: identifiers, reasons, a session's bit; properties.; The reader's properties.; The reader's filters with their options.; The reader's lists. (Written by wip/tools/gen_rlist.py.); The reader at a packet: what stands ahead of a list.; The reader at a packet: endings that may be left out.; The reader at a packet: publish.; The reader at a packet: the flags of a Connect.; The reader at a packet: connect.; The reader at a packet: what follows the length, by kinds (Connect, Publish, the empty ones, Disconnect, Auth).; The reader at a packet: what follows the length, by kinds (the acknowledgements, Connack, the lists).; The reader at a packet: what follows the length: Connack, and all kinds.; What speaks against a length.; The reader: a whole packet.; packet.begin: what a packet's first byte tells.; packet.Get's function that reads a whole packet.; packet.caught: what a reading makes, or the code by which it left.; A number is read back from its bytes, and bytes that are read are just those of the number. No program is named here.; Packets out of bytes: the plain side.; stream.first, and stream.through with whatever function it hands the packets to.; packet.Get.; stream.through, with whatever function it hands the packets to.; A stream's reader: a strings.Builder in a struct, that is written on behind its own String.; A stream's reader: what its builder holds, as a string.; The function that Feed hands a packet's bytes to.; A region that draws its order and whose last operations write what its first ones load: loads are taken first as long as the last ones wait. -/
import Derived.Test.YtlfgndhdifpngaaDoorPkConn
import Derived.Test.YtlfgndhdifpngaaDoorVarPut
import Derived.BigQuiet
import Derived.Test.YtlfgndhdifpngaaDoorVarRead
import Derived.WalkLawsBesides
import Derived.Test.YtlfgndhdifpngaaDoorPrPut
import Derived.Test.YtlfgndhdifpngaaDoorVarSize
import Derived.Test.YtlfgndhdifpngaaDoorVarWithin
import Derived.Test.YtlfgndhdifpngaaDoorPrPutOne
import Derived.Test.YtlfgndhdifpngaaDoorTxBegin
import Derived.Laws.Tables
import Derived.Deep.MidRow
import Derived.Deep.CutBlock
import Derived.Defers
import Derived.Recover
import Derived.Test.YtlfgndhdifpngaaDoorVarPure
import Derived.Laws.BytesArg
import Derived.Laws.DeepStrings4
import Derived.Lib.Hide
import Derived.Below
import Derived.WalkMore
import Derived.Test.YtlfgndhdifpngaaDoorPkWr
import Derived.Lib.FrozenHead
import Derived.Deep.RegionHeld3
import Derived.Deep.AppendLies
namespace Go.Proofs.YtlfgndhdifpngaaDoor
open Go.RowKit

theorem fold_snoc {α β : Type} (f : β → α → β) (o : β) (l : List α) (k : Nat) (x : α) (h : l[k]? = some x) : (l.take (k + 1)).foldl f o = f ((l.take k).foldl f o) x := by
  obtain ⟨hk, he⟩ := List.getElem?_eq_some_iff.1 h
  rw [List.take_succ_eq_append_getElem hk, he, List.foldl_append]
  rfl

set_option maxRecDepth 100000 in
set_option maxHeartbeats 4000000 in
theorem weachs_any (b N : Nat) (o : ByteArray × Int) (A : Option Addr) (cap : Nat) (l : List Sb) (w : World) (h : WO b N o w) (hN : N ≤ 500) (hr : ∀ W, Below b w W → Subs W A l) (hf : l.length ≤ 100 ∧ ∀ s ∈ l, SbFine s) (hT : ∀ W, Below b w W → Tabs W) :
    Calls Tryd.prog 30 #[.pointer (some ⟨b, 0, none⟩), .slice A l.length cap, .func (.func 31) #[.pointer (some ⟨b, 0, none⟩)] #[]] w (WP b (N + 200) (PK.eachO o l PK.sub) w) := by
  have hll := hf.1
  have C1 : Hid (∀ c, 0 ≤ c ∧ c ≤ 255 → Calls Tryd.prog 22 #[.pointer (some ⟨b, 0, none⟩), .int .u8 c] w (WP b N (PK.rf o c) w)) := fun c hc => wrefuse_any b N o c w h (by omega) hc
  have E : Hid (PK.eachO o l PK.sub = if l.length = 0 then PK.rf o 130 else if 64 < l.length then PK.rf o 149 else l.foldl PK.sub o) := rfl
  by_cases h0 : l.length = 0
  · have i0 : ((l.length : Int) == 0) = true := by rw [h0]; rfl
    have E1 : Hid (PK.eachO o l PK.sub = PK.rf o 130) := Lib.hid (by rw [E.out, if_pos h0])
    have D1 := Lib.hid (C1.out 130 (by decide))
    generalize PK.eachO o l PK.sub = oe at *
    clear h hr hf hT h0 C1 E
    go_enter Tryd.func30, Tryd.ntmps30
    go_wp2_with fail
    refine D1.out.mono ?_
    rintro e w1 ⟨rfl, hw, hk⟩
    have H1 := Lib.hid hw
    have K1 := Lib.hid hk
    clear hw hk D1
    go_wp2
    go_end0
    exact ⟨rfl, by rw [E1.out]; exact H1.out.mono (by omega), K1.out⟩
  · have i0 : ((l.length : Int) == 0) = false := by rw [beq_eq_false_iff_ne]; omega
    by_cases h64 : 64 < l.length
    · have i1 : (64 : Int) < (l.length : Int) := by omega
      have E1 : Hid (PK.eachO o l PK.sub = PK.rf o 149) := Lib.hid (by rw [E.out, if_neg h0, if_pos h64])
      have D1 := Lib.hid (C1.out 149 (by decide))
      generalize PK.eachO o l PK.sub = oe at *
      clear h hr hf hT h0 C1 E h64
      go_enter Tryd.func30, Tryd.ntmps30
      go_wp2_with fail
      refine D1.out.mono ?_
      rintro e w1 ⟨rfl, hw, hk⟩
      have H1 := Lib.hid hw
      have K1 := Lib.hid hk
      clear hw hk D1
      go_wp2
      go_end0
      exact ⟨rfl, by rw [E1.out]; exact H1.out.mono (by omega), K1.out⟩
    · have i1 : ¬ (64 : Int) < (l.length : Int) := by omega
      have hl64 : l.length ≤ 64 := by omega
      have E1 : Hid (PK.eachO o l PK.sub = l.foldl PK.sub o) := Lib.hid (by rw [E.out, if_neg h0, if_neg h64])
      have HR := Lib.hid hr
      have HF := Lib.hid hf.2
      have HT := Lib.hid hT
      have H0 := Lib.hid h
      generalize PK.eachO o l PK.sub = oe at *
      clear h hr hf hT h0 C1 E h64
      go_enter Tryd.func30, Tryd.ntmps30
      go_wp2_with fail
      go_loopw [10] (fun i wr => ∃ k : Nat, i = .int .i64 k ∧ k ≤ l.length ∧ Hid (WO b (N + 2 * k) ((l.take k).foldl PK.sub o) wr) ∧ Hid (Kp b w wr)) (fun i _ => l.length - (intOf i).toNat)
      case atStart => exact ⟨0, rfl, by omega, H0, Lib.hid (Kp.refl _ _)⟩
      case round =>
        obtain ⟨k, rfl, hk, hwo, hkp⟩ := hrel
        by_cases hlt : k < l.length
        · obtain ⟨x, hx⟩ : ∃ x, l[k]? = some x := ⟨l[k], List.getElem?_eq_getElem hlt⟩
          obtain ⟨g, oo, rfl, hg, q0, q1, q2, q3, q4⟩ := HR.out wr hkp.out.1 k x hx
          have hal := (Below.refl wr.heap.size wr).alloc (Nat.le_refl _) (.cells #[.string x.f, .int .i64 x.q, .bool x.nl, .bool x.ap, .int .i64 x.h] 58)
          have kal : Kp b wr (wr.alloc (.cells #[.string x.f, .int .i64 x.q, .bool x.nl, .bool x.ap, .int .i64 x.h] 58)) := Kp.of_below (Nat.le_of_lt hwo.out.lt) hal
          have C2 := Lib.hid (wsub_any b (N + 2 * k) ((l.take k).foldl PK.sub o) x _ (hwo.out.below hal) (by omega) (HF.out x (List.mem_of_getElem? hx)) (fun W hW => HT.out W (hkp.out.1.trans (kal.1.trans hW))))
          have E2 := Lib.hid (fold_snoc PK.sub o l k x hx)
          have KA := Lib.hid (hkp.out.trans kal)
          have j0 : (0 : Int) ≤ (k : Int) := by omega
          have j1 : (k : Int) < (l.length : Int) := by omega
          clear hal kal hx
          go_wp2_with fail
          refine C2.out.mono ?_
          rintro e w1 ⟨rfl, hw, hk⟩
          have H1 := Lib.hid hw
          have K1 : Hid (Kp b w w1) := KA.out.trans hk
          clear hw hk C2
          go_wp2
          go_roundw
          case rel => exact ⟨k + 1, by go_num, by omega, Lib.hid (by rw [E2.out]; exact H1.out.mono (by omega)), K1⟩
          case measure => simp [intOf]; omega
        · have hkl : k = l.length := by omega
          subst hkl
          rw [List.take_length] at hwo
          go_wp2
          go_end0
          exact ⟨rfl, by rw [E1.out]; exact hwo.out.mono (by omega), hkp.out⟩

set_option maxRecDepth 100000 in
set_option maxHeartbeats 4000000 in
theorem weacht_any (b N : Nat) (o : ByteArray × Int) (A : Option Addr) (cap : Nat) (l : List ByteArray) (w : World) (h : WO b N o w) (hN : N ≤ 500) (hr : ∀ W, Below b w W → Texts W A l) (hf : l.length ≤ 100 ∧ ∀ s ∈ l, Short s) (hT : ∀ W, Below b w W → Tabs W) :
    Calls Tryd.prog 32 #[.pointer (some ⟨b, 0, none⟩), .slice A l.length cap, .func (.func 33) #[.pointer (some ⟨b, 0, none⟩)] #[]] w (WP b (N + 200) (PK.eachO o l PK.tx) w) := by
  have hll := hf.1
  have C1 : Hid (∀ c, 0 ≤ c ∧ c ≤ 255 → Calls Tryd.prog 22 #[.pointer (some ⟨b, 0, none⟩), .int .u8 c] w (WP b N (PK.rf o c) w)) := fun c hc => wrefuse_any b N o c w h (by omega) hc
  have E : Hid (PK.eachO o l PK.tx = if l.length = 0 then PK.rf o 130 else if 64 < l.length then PK.rf o 149 else l.foldl PK.tx o) := rfl
  by_cases h0 : l.length = 0
  · have i0 : ((l.length : Int) == 0) = true := by rw [h0]; rfl
    have E1 : Hid (PK.eachO o l PK.tx = PK.rf o 130) := Lib.hid (by rw [E.out, if_pos h0])
    have D1 := Lib.hid (C1.out 130 (by decide))
    generalize PK.eachO o l PK.tx = oe at *
    clear h hr hf hT h0 C1 E
    go_enter Tryd.func32, Tryd.ntmps32
    go_wp2_with fail
    refine D1.out.mono ?_
    rintro e w1 ⟨rfl, hw, hk⟩
    have H1 := Lib.hid hw
    have K1 := Lib.hid hk
    clear hw hk D1
    go_wp2
    go_end0
    exact ⟨rfl, by rw [E1.out]; exact H1.out.mono (by omega), K1.out⟩
  · have i0 : ((l.length : Int) == 0) = false := by rw [beq_eq_false_iff_ne]; omega
    by_cases h64 : 64 < l.length
    · have i1 : (64 : Int) < (l.length : Int) := by omega
      have E1 : Hid (PK.eachO o l PK.tx = PK.rf o 149) := Lib.hid (by rw [E.out, if_neg h0, if_pos h64])
      have D1 := Lib.hid (C1.out 149 (by decide))
      generalize PK.eachO o l PK.tx = oe at *
      clear h hr hf hT h0 C1 E h64
      go_enter Tryd.func32, Tryd.ntmps32
      go_wp2_with fail
      refine D1.out.mono ?_
      rintro e w1 ⟨rfl, hw, hk⟩
      have H1 := Lib.hid hw
      have K1 := Lib.hid hk
      clear hw hk D1
      go_wp2
      go_end0
      exact ⟨rfl, by rw [E1.out]; exact H1.out.mono (by omega), K1.out⟩
    · have i1 : ¬ (64 : Int) < (l.length : Int) := by omega
      have hl64 : l.length ≤ 64 := by omega
      have E1 : Hid (PK.eachO o l PK.tx = l.foldl PK.tx o) := Lib.hid (by rw [E.out, if_neg h0, if_neg h64])
      have HR := Lib.hid hr
      have HF := Lib.hid hf.2
      have HT := Lib.hid hT
      have H0 := Lib.hid h
      generalize PK.eachO o l PK.tx = oe at *
      clear h hr hf hT h0 C1 E h64
      go_enter Tryd.func32, Tryd.ntmps32
      go_wp2_with fail
      go_loopw [10] (fun i wr => ∃ k : Nat, i = .int .i64 k ∧ k ≤ l.length ∧ Hid (WO b (N + 2 * k) ((l.take k).foldl PK.tx o) wr) ∧ Hid (Kp b w wr)) (fun i _ => l.length - (intOf i).toNat)
      case atStart => exact ⟨0, rfl, by omega, H0, Lib.hid (Kp.refl _ _)⟩
      case round =>
        obtain ⟨k, rfl, hk, hwo, hkp⟩ := hrel
        by_cases hlt : k < l.length
        · obtain ⟨x, hx⟩ : ∃ x, l[k]? = some x := ⟨l[k], List.getElem?_eq_getElem hlt⟩
          obtain ⟨g, oo, rfl, hg, q0⟩ := HR.out wr hkp.out.1 k x hx
          have C2 := Lib.hid (wtext_any b (N + 2 * k) ((l.take k).foldl PK.tx o) x wr hwo.out (by omega) (HF.out x (List.mem_of_getElem? hx)) (HT.out wr hkp.out.1))
          have E2 := Lib.hid (fold_snoc PK.tx o l k x hx)
          have KA := hkp
          have j0 : (0 : Int) ≤ (k : Int) := by omega
          have j1 : (k : Int) < (l.length : Int) := by omega
          clear hx
          go_wp2_with fail
          refine C2.out.mono ?_
          rintro e w1 ⟨rfl, hw, hk⟩
          have H1 := Lib.hid hw
          have K1 : Hid (Kp b w w1) := KA.out.trans hk
          clear hw hk C2
          go_wp2
          go_roundw
          case rel => exact ⟨k + 1, by go_num, by omega, Lib.hid (by rw [E2.out]; exact H1.out.mono (by omega)), K1⟩
          case measure => simp [intOf]; omega
        · have hkl : k = l.length := by omega
          subst hkl
          rw [List.take_length] at hwo
          go_wp2
          go_end0
          exact ⟨rfl, by rw [E1.out]; exact hwo.out.mono (by omega), hkp.out⟩

set_option maxRecDepth 100000 in
set_option maxHeartbeats 4000000 in
theorem weachc_any (b N : Nat) (o : ByteArray × Int) (A : Option Addr) (cap : Nat) (l : List Int) (w : World) (h : WO b N o w) (hN : N ≤ 500) (hr : ∀ W, Below b w W → Codes W A l) (hf : l.length ≤ 100 ∧ ∀ c ∈ l, 0 ≤ c ∧ c ≤ 255) :
    Calls Tryd.prog 34 #[.pointer (some ⟨b, 0, none⟩), .slice A l.length cap, .func (.func 26) #[.pointer (some ⟨b, 0, none⟩)] #[]] w (WP b (N + 200) (PK.eachO o l (fun o c => PK.nm o 1 c)) w) := by
  have hll := hf.1
  have C1 : Hid (∀ c, 0 ≤ c ∧ c ≤ 255 → Calls Tryd.prog 22 #[.pointer (some ⟨b, 0, none⟩), .int .u8 c] w (WP b N (PK.rf o c) w)) := fun c hc => wrefuse_any b N o c w h (by omega) hc
  have E : Hid (PK.eachO o l (fun o c => PK.nm o 1 c) = if l.length = 0 then PK.rf o 130 else if 64 < l.length then PK.rf o 149 else l.foldl (fun o c => PK.nm o 1 c) o) := rfl
  by_cases h0 : l.length = 0
  · have i0 : ((l.length : Int) == 0) = true := by rw [h0]; rfl
    have E1 : Hid (PK.eachO o l (fun o c => PK.nm o 1 c) = PK.rf o 130) := Lib.hid (by rw [E.out, if_pos h0])
    have D1 := Lib.hid (C1.out 130 (by decide))
    generalize PK.eachO o l (fun o c => PK.nm o 1 c) = oe at *
    clear h hr hf h0 C1 E
    go_enter Tryd.func34, Tryd.ntmps34
    go_wp2_with fail
    refine D1.out.mono ?_
    rintro e w1 ⟨rfl, hw, hk⟩
    have H1 := Lib.hid hw
    have K1 := Lib.hid hk
    clear hw hk D1
    go_wp2
    go_end0
    exact ⟨rfl, by rw [E1.out]; exact H1.out.mono (by omega), K1.out⟩
  · have i0 : ((l.length : Int) == 0) = false := by rw [beq_eq_false_iff_ne]; omega
    by_cases h64 : 64 < l.length
    · have i1 : (64 : Int) < (l.length : Int) := by omega
      have E1 : Hid (PK.eachO o l (fun o c => PK.nm o 1 c) = PK.rf o 149) := Lib.hid (by rw [E.out, if_neg h0, if_pos h64])
      have D1 := Lib.hid (C1.out 149 (by decide))
      generalize PK.eachO o l (fun o c => PK.nm o 1 c) = oe at *
      clear h hr hf h0 C1 E h64
      go_enter Tryd.func34, Tryd.ntmps34
      go_wp2_with fail
      refine D1.out.mono ?_
      rintro e w1 ⟨rfl, hw, hk⟩
      have H1 := Lib.hid hw
      have K1 := Lib.hid hk
      clear hw hk D1
      go_wp2
      go_end0
      exact ⟨rfl, by rw [E1.out]; exact H1.out.mono (by omega), K1.out⟩
    · have i1 : ¬ (64 : Int) < (l.length : Int) := by omega
      have hl64 : l.length ≤ 64 := by omega
      have E1 : Hid (PK.eachO o l (fun o c => PK.nm o 1 c) = l.foldl (fun o c => PK.nm o 1 c) o) := Lib.hid (by rw [E.out, if_neg h0, if_neg h64])
      have HR := Lib.hid hr
      have HF := Lib.hid hf.2
      have H0 := Lib.hid h
      generalize PK.eachO o l (fun o c => PK.nm o 1 c) = oe at *
      clear h hr hf h0 C1 E h64
      go_enter Tryd.func34, Tryd.ntmps34
      go_wp2_with fail
      go_loopw [10] (fun i wr => ∃ k : Nat, i = .int .i64 k ∧ k ≤ l.length ∧ Hid (WO b (N + 2 * k) ((l.take k).foldl (fun o c => PK.nm o 1 c) o) wr) ∧ Hid (Kp b w wr)) (fun i _ => l.length - (intOf i).toNat)
      case atStart => exact ⟨0, rfl, by omega, H0, Lib.hid (Kp.refl _ _)⟩
      case round =>
        obtain ⟨k, rfl, hk, hwo, hkp⟩ := hrel
        by_cases hlt : k < l.length
        · obtain ⟨x, hx⟩ : ∃ x, l[k]? = some x := ⟨l[k], List.getElem?_eq_getElem hlt⟩
          obtain ⟨g, oo, rfl, hg, q0⟩ := HR.out wr hkp.out.1 k x hx
          have C2 := Lib.hid (wreason_any b (N + 2 * k) ((l.take k).foldl (fun o c => PK.nm o 1 c) o) x wr hwo.out (by omega) (HF.out x (List.mem_of_getElem? hx)))
          have E2 := Lib.hid (fold_snoc (fun o c => PK.nm o 1 c) o l k x hx)
          have KA := hkp
          have j0 : (0 : Int) ≤ (k : Int) := by omega
          have j1 : (k : Int) < (l.length : Int) := by omega
          clear hx
          go_wp2_with fail
          refine C2.out.mono ?_
          rintro e w1 ⟨rfl, hw, hk⟩
          have H1 := Lib.hid hw
          have K1 : Hid (Kp b w w1) := KA.out.trans hk
          clear hw hk C2
          go_wp2
          go_roundw
          case rel => exact ⟨k + 1, by go_num, by omega, Lib.hid (by rw [E2.out]; exact H1.out.mono (by omega)), K1⟩
          case measure => simp [intOf]; omega
        · have hkl : k = l.length := by omega
          subst hkl
          rw [List.take_length] at hwo
          go_wp2
          go_end0
          exact ⟨rfl, by rw [E1.out]; exact hwo.out.mono (by omega), hkp.out⟩
end Go.Proofs.YtlfgndhdifpngaaDoor
namespace Go.Proofs.YtlfgndhdifpngaaDoor
open Go.RowKit
attribute [local go_sem ↓] Go.wp_at_zero Go.wp_at_succ

namespace PK
def fixN (k : Int) : Int := if k = 6 ∨ k = 8 ∨ k = 10 then 2 else 0
def isK (k : Int) : Bool := decide (1 ≤ k) && decide (k ≤ 15)
end PK
theorem fixed_flags (k : Int) (w : World) : Calls Tryd.prog 20 #[.int .i64 k] w fun e w' => e = .returned (.int .i64 (PK.fixN k)) ∧ w = w' := by
  unfold PK.fixN
  by_cases h6 : k = 6
  · subst h6
    go_enter Tryd.func20, Tryd.ntmps20
    go_wp2
    go_ret
    exact ⟨rfl, rfl⟩
  · by_cases h8 : k = 8
    · subst h8
      go_enter Tryd.func20, Tryd.ntmps20
      go_wp2
      go_ret
      exact ⟨rfl, rfl⟩
    · by_cases h10 : k = 10
      · subst h10
        go_enter Tryd.func20, Tryd.ntmps20
        go_wp2
        go_ret
        exact ⟨rfl, rfl⟩
      · rw [if_neg (by omega)]
        have e6 : (k == 6) = false := by rw [beq_eq_false_iff_ne]; exact h6
        have e8 : (k == 8) = false := by rw [beq_eq_false_iff_ne]; exact h8
        have e10 : (k == 10) = false := by rw [beq_eq_false_iff_ne]; exact h10
        clear h6 h8 h10
        go_enter Tryd.func20, Tryd.ntmps20
        go_wp2
        go_ret
        exact ⟨rfl, rfl⟩
theorem iskind_any (k : Int) (w : World) : Calls Tryd.prog 9 #[.int .i64 k] w fun e w' => e = .returned (.bool (PK.isK k)) ∧ w = w' := by
  have E : Hid (PK.isK k = (decide (1 ≤ k) && decide (k ≤ 15))) := rfl
  generalize PK.isK k = q at *
  by_cases h0 : 1 ≤ k
  · go_enter Tryd.func9, Tryd.ntmps9
    go_wp2
    go_ret
    exact ⟨by rw [E.out]; simp [h0], rfl⟩
  · go_enter Tryd.func9, Tryd.ntmps9
    go_wp2
    go_ret
    exact ⟨by rw [E.out]; simp; omega, rfl⟩
theorem canpub_any (p : Pk) (vc vp vw vs vf : Value) (w : World) : Calls Tryd.prog 21 #[.agg (pkCells p vc vp vw vs vf)] w fun e w' => e = .returned (.bool (PK.canPub p)) ∧ Below w.heap.size w w' := by
  have hb0 : (w.alloc (.cells (pkCells p vc vp vw vs vf) 38)).heap[w.heap.size]? = some (.cells (pkCells p vc vp vw vs vf) 38 (0, 0)) := heap_alloc_new w _
  have hal := Lib.hid ((Below.refl w.heap.size w).alloc (Nat.le_refl _) (.cells (pkCells p vc vp vw vs vf) 38))
  obtain ⟨-, q1, -, q3, -⟩ := pk_cells hb0
  have CQ := Lib.hid isqos_any
  have E : Hid (PK.canPub p = (PK.isQ p.qos && (decide (0 < p.qos) || !p.dup))) := rfl
  generalize PK.canPub p = r at *
  clear hb0
  cases hq : PK.isQ p.qos
  · go_enter Tryd.func21, Tryd.ntmps21
    go_wp2_with fail
    refine (CQ.out _ _).mono ?_
    rintro e w' ⟨rfl, rfl⟩
    rw [hq]
    go_wp2
    go_ret
    exact ⟨by rw [E.out, hq]; rfl, hal.out⟩
  · by_cases h0 : 0 < p.qos
    · have HQ := Lib.hid hq
      clear hq
      go_enter Tryd.func21, Tryd.ntmps21
      go_wp2_with fail
      refine (CQ.out _ _).mono ?_
      rintro e w' ⟨rfl, rfl⟩
      rw [HQ.out]
      go_wp2
      go_ret
      exact ⟨by rw [E.out, HQ.out]; simp [h0], hal.out⟩
    · have HQ := Lib.hid hq
      clear hq
      go_enter Tryd.func21, Tryd.ntmps21
      go_wp2_with fail
      refine (CQ.out _ _).mono ?_
      rintro e w' ⟨rfl, rfl⟩
      rw [HQ.out]
      go_wp2
      go_ret
      exact ⟨by rw [E.out, HQ.out]; simp, hal.out⟩
end Go.Proofs.YtlfgndhdifpngaaDoor
namespace Go.Proofs.YtlfgndhdifpngaaDoor
open Go.RowKit
attribute [local go_sem ↓] Go.wp_at_zero Go.wp_at_succ

/-- What the writer's flags answers. -/
def FlP (b : Nat) (p : Pk) (w : World) (e : Ending) (w' : World) : Prop :=
  ∃ v, e = .returned (.int .i64 v) ∧ ((PK.flagsO p).2 = 0 → v = PK.flagsN p) ∧ I64 v ∧ WO b 0 (PK.flagsO p) w' ∧ Kp b w w'
theorem Kp.to_drew {b : Nat} {w w' : World} (h : Kp b w w') : Kp b w w'.drew := ⟨h.1.drew, h.2.drew⟩
theorem pub_or (d r : Bool) {q : Int} (hq : PK.isQ q = true) : bits .or .i64 (bits .or .i64 (PK.fl d 8) (IntKind.i64.wrap (q * 2))) (PK.fl r 1) = PK.fl d 8 + 2 * q + PK.fl r 1 := by
  rcases isQ_cases hq with rfl | rfl | rfl <;> cases d <;> cases r <;> decide +kernel
theorem fixN_le (k : Int) : 0 ≤ PK.fixN k ∧ PK.fixN k ≤ 2 := by unfold PK.fixN; split <;> decide
theorem canpub_q {p : Pk} (h : PK.canPub p = true) : PK.isQ p.qos = true := by unfold PK.canPub at h; simp only [Bool.and_eq_true] at h; exact h.1

set_option maxRecDepth 100000 in
set_option maxHeartbeats 4000000 in
theorem wflags_any (b : Nat) (p : Pk) (vc vp vw vs vf : Value) (w : World) (h : WO b 0 (⟨#[]⟩, 0) w) (hp : PkFine p) :
    Calls Tryd.prog 10 #[.pointer (some ⟨b, 0, none⟩), .agg (pkCells p vc vp vw vs vf)] w (FlP b p w) := by
  obtain ⟨w0, k0, hb0⟩ := boxed h p vc vp vw vs vf
  have hne : w.heap.size ≠ b := by have := h.lt; omega
  have C2 : Hid (∀ W, WO b 0 (⟨#[]⟩, 0) W → Calls Tryd.prog 22 #[.pointer (some ⟨b, 0, none⟩), .int .u8 129] W (WP b 0 (PK.rf (⟨#[]⟩, 0) 129) W)) := fun W hO => wrefuse_any b 0 _ 129 W hO (by omega) (by decide)
  have CF := Lib.hid flag_any
  have CX := Lib.hid fixed_flags
  have CC : Hid (∀ W, Calls Tryd.prog 21 #[.agg (pkCells p vc vp vw vs vf)] W fun e w' => e = .returned (.bool (PK.canPub p)) ∧ Below W.heap.size W w') := fun W => canpub_any p _ _ _ _ _ W
  obtain ⟨q0, -⟩ := pk_cells hb0
  have K0 := Lib.hid k0
  have B0 := Lib.hid hb0
  have O0 := Lib.hid w0
  have hq1 := hp.qos.1; have hq2 := hp.qos.2
  by_cases h3 : p.kind = 3
  · have e3 : (p.kind != 3) = false := by simp [h3]
    by_cases hc : PK.canPub p = true
    · have E1 : Hid (PK.flagsO p = (⟨#[]⟩, 0)) := Lib.hid (by unfold PK.flagsO; rw [if_neg (by simp [hc])])
      have E2 : Hid (PK.flagsN p = bits .or .i64 (bits .or .i64 (PK.fl p.dup 8) (IntKind.i64.wrap (p.qos * 2))) (PK.fl p.ret 1)) := Lib.hid (by unfold PK.flagsN; rw [if_pos h3, pub_or _ _ (canpub_q hc)])
      have HC := Lib.hid hc
      clear h hp w0 k0 hb0 h3 hc C2
      go_enter Tryd.func10, Tryd.ntmps10
      go_wp2_with (refine wpl_load_pk (by rfl) (.tmp 3) (by rfl) w.heap.size (by rfl) B0.out ?_)
      refine (CC.out _).mono ?_
      rintro e w1 ⟨rfl, b1⟩
      have hb1 := (b1.block _ (lt_heap B0.out)).trans B0.out
      have K1 : Hid (Kp b w w1) := K0.out.trans (Kp.of_below (Nat.le_of_lt O0.out.lt) b1)
      have O1 := Lib.hid (O0.out.below b1)
      rw [HC.out]
      obtain ⟨-, r1, r2, r3, -⟩ := pk_cells hb1
      clear b1 hb1 CC
      go_wp2_with fail
      go_region_held3 (fun w' => w'.cell? ⟨w.heap.size, 1, none⟩ = some (.bool p.dup) ∧ w'.cell? ⟨w.heap.size, 2, none⟩ = some (.bool p.ret) ∧ w'.cell? ⟨w.heap.size, 3, none⟩ = some (.int .i64 p.qos))
        (first | exact ⟨r1, r2, r3⟩)
        (first
          | (go_at_call 23
             refine (CF.out _ _ _).mono ?_
             rintro e w' ⟨rfl, rfl⟩))
      all_goals
        go_wp2
        go_ret
        exact ⟨_, rfl, fun _ => E2.out.symm, bits_in _ _ _, by rw [E1.out]; exact O1.out, K1.out.to_drew⟩
    · have hcf : PK.canPub p = false := by simpa using hc
      have E1 : Hid (PK.flagsO p = PK.rf (⟨#[]⟩, 0) 129) := Lib.hid (by unfold PK.flagsO; rw [if_pos ⟨h3, hcf⟩]; rfl)
      have HC := Lib.hid hcf
      clear h hp w0 k0 hb0 h3 hc hcf
      go_enter Tryd.func10, Tryd.ntmps10
      go_wp2_with (refine wpl_load_pk (by rfl) (.tmp 3) (by rfl) w.heap.size (by rfl) B0.out ?_)
      refine (CC.out _).mono ?_
      rintro e w1 ⟨rfl, b1⟩
      have hb1 := (b1.block _ (lt_heap B0.out)).trans B0.out
      have K1 : Hid (Kp b w w1) := K0.out.trans (Kp.of_below (Nat.le_of_lt O0.out.lt) b1)
      have D2 := Lib.hid (C2.out w1 (O0.out.below b1))
      have B1 := Lib.hid hb1
      rw [HC.out]
      clear b1 hb1 CC C2
      go_wp2_with fail
      refine D2.out.mono ?_
      rintro e w2 ⟨rfl, hw, hk⟩
      have K2 : Hid (Kp b w w2) := K1.out.trans hk
      have O2 := Lib.hid hw
      obtain ⟨-, r1, r2, r3, -⟩ := pk_cells (boxed_kept hk hne B1.out)
      clear hw hk D2
      go_wp2_with fail
      go_region_held3 (fun w' => w'.cell? ⟨w.heap.size, 1, none⟩ = some (.bool p.dup) ∧ w'.cell? ⟨w.heap.size, 2, none⟩ = some (.bool p.ret) ∧ w'.cell? ⟨w.heap.size, 3, none⟩ = some (.int .i64 p.qos))
        (first | exact ⟨r1, r2, r3⟩)
        (first
          | (go_at_call 23
             refine (CF.out _ _ _).mono ?_
             rintro e w' ⟨rfl, rfl⟩))
      all_goals
        go_wp2
        go_ret
        exact ⟨_, rfl, fun h => absurd h (by rw [E1.out]; exact PK.rf_code _ (by decide)), bits_in _ _ _, by rw [E1.out]; exact O2.out, K2.out.to_drew⟩
  · have e3 : (p.kind != 3) = true := by simp [h3]
    have E1 : Hid (PK.flagsO p = (⟨#[]⟩, 0)) := Lib.hid (by unfold PK.flagsO; rw [if_neg (fun h => h3 h.1)])
    have E2 : Hid (PK.flagsN p = PK.fixN p.kind) := Lib.hid (by unfold PK.flagsN PK.fixN; rw [if_neg h3])
    have hx := fixN_le p.kind
    have HX : Hid (I64 (PK.fixN p.kind)) := Lib.hid (by unfold I64; omega)
    clear h hp w0 k0 hb0 h3 C2 CC
    go_enter Tryd.func10, Tryd.ntmps10
    go_wp2_with fail
    refine (CX.out _ _).mono ?_
    rintro e w' ⟨rfl, rfl⟩
    go_wp2
    go_ret
    exact ⟨_, rfl, fun _ => E2.out.symm, HX.out, by rw [E1.out]; exact O0.out, K0.out⟩

/-- Which number a kind is. -/
theorem kind_eq {k n m : Int} {r : Bool} (h : k = n) (hb : (n == m) = r) : (k == m) = r := by rw [h]; exact hb
set_option maxRecDepth 100000 in
set_option maxHeartbeats 4000000 in
theorem wparts_1 (b : Nat) (o : ByteArray × Int) (p : Pk) (vc vp vw vs vf : Value) (w : World) (h : WO b 0 o w) (hp : PkIn b w p vc vp vw vs vf) (hk : p.kind = 1) :
    Calls Tryd.prog 11 #[.pointer (some ⟨b, 0, none⟩), .agg (pkCells p vc vp vw vs vf)] w (WP b 16777000 (PK.conn o p) w) := by
  obtain ⟨w0, k0, hb0⟩ := boxed h p vc vp vw vs vf
  have hne : w.heap.size ≠ b := by have := h.lt; omega
  have hp0 : PkIn b (w.alloc (.cells (pkCells p vc vp vw vs vf) 38)) p vc vp vw vs vf := hp.below k0.1
  have C1 := Lib.hid (wconn_any b 0 o p _ _ _ _ _ _ w0 (by omega) hp0 hk)
  have e1 : (p.kind == 1) = true := kind_eq hk (by decide)
  have e2 : (p.kind == 2) = false := kind_eq hk (by decide)
  have e3 : (p.kind == 3) = false := kind_eq hk (by decide)
  have e8 : (p.kind == 8) = false := kind_eq hk (by decide)
  have e10 : (p.kind == 10) = false := kind_eq hk (by decide)
  have e9 : (p.kind == 9) = false := kind_eq hk (by decide)
  have e11 : (p.kind == 11) = false := kind_eq hk (by decide)
  have e4 : (p.kind == 4) = false := kind_eq hk (by decide)
  have e5 : (p.kind == 5) = false := kind_eq hk (by decide)
  have e6 : (p.kind == 6) = false := kind_eq hk (by decide)
  have e7 : (p.kind == 7) = false := kind_eq hk (by decide)
  have e14 : (p.kind == 14) = false := kind_eq hk (by decide)
  have e15 : (p.kind == 15) = false := kind_eq hk (by decide)
  have K0 := Lib.hid k0
  have B0 := Lib.hid hb0
  have O0 := Lib.hid w0
  obtain ⟨q0, -⟩ := pk_cells hb0
  generalize PK.conn o p = oe at *
  clear h hp hp0 w0 k0 hb0 hk
  go_enter Tryd.func11, Tryd.ntmps11
  go_wp2_with (refine wpl_load_pk (by rfl) (.tmp 3) (by rfl) w.heap.size (by rfl) B0.out ?_)
  refine (C1.out).mono ?_
  rintro e w1 ⟨rfl, hw, hk1⟩
  have K1 : Hid (Kp b w w1) := K0.out.trans hk1
  have O1 := Lib.hid hw
  have B1 := Lib.hid (boxed_kept hk1 hne B0.out)
  clear hw hk1
  go_wp2
  go_end0
  exact ⟨rfl, O1.out.mono (by omega), K1.out⟩
set_option maxRecDepth 100000 in
set_option maxHeartbeats 4000000 in
theorem wparts_3 (b : Nat) (o : ByteArray × Int) (p : Pk) (vc vp vw vs vf : Value) (w : World) (h : WO b 0 o w) (hp : PkIn b w p vc vp vw vs vf) (hk : p.kind = 3) :
    Calls Tryd.prog 11 #[.pointer (some ⟨b, 0, none⟩), .agg (pkCells p vc vp vw vs vf)] w (WP b 16777000 (PK.pub o p) w) := by
  obtain ⟨w0, k0, hb0⟩ := boxed h p vc vp vw vs vf
  have hne : w.heap.size ≠ b := by have := h.lt; omega
  have hp0 : PkIn b (w.alloc (.cells (pkCells p vc vp vw vs vf) 38)) p vc vp vw vs vf := hp.below k0.1
  have C1 := Lib.hid (wpublish_any b 0 o p _ _ _ _ _ _ w0 (by omega) hp0)
  have e1 : (p.kind == 1) = false := kind_eq hk (by decide)
  have e2 : (p.kind == 2) = false := kind_eq hk (by decide)
  have e3 : (p.kind == 3) = true := kind_eq hk (by decide)
  have e8 : (p.kind == 8) = false := kind_eq hk (by decide)
  have e10 : (p.kind == 10) = false := kind_eq hk (by decide)
  have e9 : (p.kind == 9) = false := kind_eq hk (by decide)
  have e11 : (p.kind == 11) = false := kind_eq hk (by decide)
  have e4 : (p.kind == 4) = false := kind_eq hk (by decide)
  have e5 : (p.kind == 5) = false := kind_eq hk (by decide)
  have e6 : (p.kind == 6) = false := kind_eq hk (by decide)
  have e7 : (p.kind == 7) = false := kind_eq hk (by decide)
  have e14 : (p.kind == 14) = false := kind_eq hk (by decide)
  have e15 : (p.kind == 15) = false := kind_eq hk (by decide)
  have K0 := Lib.hid k0
  have B0 := Lib.hid hb0
  have O0 := Lib.hid w0
  obtain ⟨q0, -⟩ := pk_cells hb0
  generalize PK.pub o p = oe at *
  clear h hp hp0 w0 k0 hb0 hk
  go_enter Tryd.func11, Tryd.ntmps11
  go_wp2_with (refine wpl_load_pk (by rfl) (.tmp 3) (by rfl) w.heap.size (by rfl) B0.out ?_)
  refine (C1.out).mono ?_
  rintro e w1 ⟨rfl, hw, hk1⟩
  have K1 : Hid (Kp b w w1) := K0.out.trans hk1
  have O1 := Lib.hid hw
  have B1 := Lib.hid (boxed_kept hk1 hne B0.out)
  clear hw hk1
  go_wp2
  go_end0
  exact ⟨rfl, O1.out.mono (by omega), K1.out⟩
set_option maxRecDepth 100000 in
set_option maxHeartbeats 4000000 in
theorem wparts_14 (b : Nat) (o : ByteArray × Int) (p : Pk) (vc vp vw vs vf : Value) (w : World) (h : WO b 0 o w) (hp : PkIn b w p vc vp vw vs vf) (hk : p.kind = 14) :
    Calls Tryd.prog 11 #[.pointer (some ⟨b, 0, none⟩), .agg (pkCells p vc vp vw vs vf)] w (WP b 16777000 (PK.ending o p) w) := by
  obtain ⟨w0, k0, hb0⟩ := boxed h p vc vp vw vs vf
  have hne : w.heap.size ≠ b := by have := h.lt; omega
  have hp0 : PkIn b (w.alloc (.cells (pkCells p vc vp vw vs vf) 38)) p vc vp vw vs vf := hp.below k0.1
  have C1 := Lib.hid (wending_any b 0 o p _ _ _ _ _ _ w0 (by omega) hp0)
  have e1 : (p.kind == 1) = false := kind_eq hk (by decide)
  have e2 : (p.kind == 2) = false := kind_eq hk (by decide)
  have e3 : (p.kind == 3) = false := kind_eq hk (by decide)
  have e8 : (p.kind == 8) = false := kind_eq hk (by decide)
  have e10 : (p.kind == 10) = false := kind_eq hk (by decide)
  have e9 : (p.kind == 9) = false := kind_eq hk (by decide)
  have e11 : (p.kind == 11) = false := kind_eq hk (by decide)
  have e4 : (p.kind == 4) = false := kind_eq hk (by decide)
  have e5 : (p.kind == 5) = false := kind_eq hk (by decide)
  have e6 : (p.kind == 6) = false := kind_eq hk (by decide)
  have e7 : (p.kind == 7) = false := kind_eq hk (by decide)
  have e14 : (p.kind == 14) = true := kind_eq hk (by decide)
  have e15 : (p.kind == 15) = false := kind_eq hk (by decide)
  have K0 := Lib.hid k0
  have B0 := Lib.hid hb0
  have O0 := Lib.hid w0
  obtain ⟨q0, -⟩ := pk_cells hb0
  generalize PK.ending o p = oe at *
  clear h hp hp0 w0 k0 hb0 hk
  go_enter Tryd.func11, Tryd.ntmps11
  go_wp2_with (refine wpl_load_pk (by rfl) (.tmp 3) (by rfl) w.heap.size (by rfl) B0.out ?_)
  refine (C1.out).mono ?_
  rintro e w1 ⟨rfl, hw, hk1⟩
  have K1 : Hid (Kp b w w1) := K0.out.trans hk1
  have O1 := Lib.hid hw
  have B1 := Lib.hid (boxed_kept hk1 hne B0.out)
  clear hw hk1
  go_wp2
  go_end0
  exact ⟨rfl, O1.out.mono (by omega), K1.out⟩
set_option maxRecDepth 100000 in
set_option maxHeartbeats 4000000 in
theorem wparts_15 (b : Nat) (o : ByteArray × Int) (p : Pk) (vc vp vw vs vf : Value) (w : World) (h : WO b 0 o w) (hp : PkIn b w p vc vp vw vs vf) (hk : p.kind = 15) :
    Calls Tryd.prog 11 #[.pointer (some ⟨b, 0, none⟩), .agg (pkCells p vc vp vw vs vf)] w (WP b 16777000 (PK.ending o p) w) := by
  obtain ⟨w0, k0, hb0⟩ := boxed h p vc vp vw vs vf
  have hne : w.heap.size ≠ b := by have := h.lt; omega
  have hp0 : PkIn b (w.alloc (.cells (pkCells p vc vp vw vs vf) 38)) p vc vp vw vs vf := hp.below k0.1
  have C1 := Lib.hid (wending_any b 0 o p _ _ _ _ _ _ w0 (by omega) hp0)
  have e1 : (p.kind == 1) = false := kind_eq hk (by decide)
  have e2 : (p.kind == 2) = false := kind_eq hk (by decide)
  have e3 : (p.kind == 3) = false := kind_eq hk (by decide)
  have e8 : (p.kind == 8) = false := kind_eq hk (by decide)
  have e10 : (p.kind == 10) = false := kind_eq hk (by decide)
  have e9 : (p.kind == 9) = false := kind_eq hk (by decide)
  have e11 : (p.kind == 11) = false := kind_eq hk (by decide)
  have e4 : (p.kind == 4) = false := kind_eq hk (by decide)
  have e5 : (p.kind == 5) = false := kind_eq hk (by decide)
  have e6 : (p.kind == 6) = false := kind_eq hk (by decide)
  have e7 : (p.kind == 7) = false := kind_eq hk (by decide)
  have e14 : (p.kind == 14) = false := kind_eq hk (by decide)
  have e15 : (p.kind == 15) = true := kind_eq hk (by decide)
  have K0 := Lib.hid k0
  have B0 := Lib.hid hb0
  have O0 := Lib.hid w0
  obtain ⟨q0, -⟩ := pk_cells hb0
  generalize PK.ending o p = oe at *
  clear h hp hp0 w0 k0 hb0 hk
  go_enter Tryd.func11, Tryd.ntmps11
  go_wp2_with (refine wpl_load_pk (by rfl) (.tmp 3) (by rfl) w.heap.size (by rfl) B0.out ?_)
  refine (C1.out).mono ?_
  rintro e w1 ⟨rfl, hw, hk1⟩
  have K1 : Hid (Kp b w w1) := K0.out.trans hk1
  have O1 := Lib.hid hw
  have B1 := Lib.hid (boxed_kept hk1 hne B0.out)
  clear hw hk1
  go_wp2
  go_end0
  exact ⟨rfl, O1.out.mono (by omega), K1.out⟩
set_option maxRecDepth 100000 in
set_option maxHeartbeats 4000000 in
theorem wparts_4 (b : Nat) (o : ByteArray × Int) (p : Pk) (vc vp vw vs vf : Value) (w : World) (h : WO b 0 o w) (hp : PkIn b w p vc vp vw vs vf) (hk : p.kind = 4) :
    Calls Tryd.prog 11 #[.pointer (some ⟨b, 0, none⟩), .agg (pkCells p vc vp vw vs vf)] w (WP b 16777000 (PK.ending (PK.idd o p.id) p) w) := by
  obtain ⟨w0, k0, hb0⟩ := boxed h p vc vp vw vs vf
  have hne : w.heap.size ≠ b := by have := h.lt; omega
  have hp0 : PkIn b (w.alloc (.cells (pkCells p vc vp vw vs vf) 38)) p vc vp vw vs vf := hp.below k0.1
  have C1 := Lib.hid (wid_any b 0 o p.id _ w0 (by omega) hp.fine.id)
  have C2 : Hid (∀ W, Kp b w W → WO b (0 + 1) (PK.idd o p.id) W → Calls Tryd.prog 36 #[.pointer (some ⟨b, 0, none⟩), .agg (pkCells p vc vp vw vs vf)] W (WP b (0 + 1 + 1 + 1) (PK.ending (PK.idd o p.id) p) W)) := fun W hW hO => wending_any b (0 + 1) _ p _ _ _ _ _ W hO (by omega) (hp.below hW.1)
  have e1 : (p.kind == 1) = false := kind_eq hk (by decide)
  have e2 : (p.kind == 2) = false := kind_eq hk (by decide)
  have e3 : (p.kind == 3) = false := kind_eq hk (by decide)
  have e8 : (p.kind == 8) = false := kind_eq hk (by decide)
  have e10 : (p.kind == 10) = false := kind_eq hk (by decide)
  have e9 : (p.kind == 9) = false := kind_eq hk (by decide)
  have e11 : (p.kind == 11) = false := kind_eq hk (by decide)
  have e4 : (p.kind == 4) = true := kind_eq hk (by decide)
  have e5 : (p.kind == 5) = false := kind_eq hk (by decide)
  have e6 : (p.kind == 6) = false := kind_eq hk (by decide)
  have e7 : (p.kind == 7) = false := kind_eq hk (by decide)
  have e14 : (p.kind == 14) = false := kind_eq hk (by decide)
  have e15 : (p.kind == 15) = false := kind_eq hk (by decide)
  have K0 := Lib.hid k0
  have B0 := Lib.hid hb0
  have O0 := Lib.hid w0
  obtain ⟨q0, -⟩ := pk_cells hb0
  generalize PK.ending (PK.idd o p.id) p = oe at *
  generalize PK.idd o p.id = o1 at *
  obtain ⟨-, -, -, -, q4, -⟩ := pk_cells hb0
  clear h hp hp0 w0 k0 hb0 hk
  go_enter Tryd.func11, Tryd.ntmps11
  go_wp2_with fail
  refine (C1.out).mono ?_
  rintro e w1 ⟨rfl, hw, hk1⟩
  have K1 : Hid (Kp b w w1) := K0.out.trans hk1
  have O1 := Lib.hid hw
  have B1 := Lib.hid (boxed_kept hk1 hne B0.out)
  clear hw hk1
  clear q0 q4
  go_wp2_with (refine wpl_load_pk (by rfl) (.tmp 3) (by rfl) w.heap.size (by rfl) B1.out ?_)
  refine (C2.out _ K1.out O1.out).mono ?_
  rintro e w2 ⟨rfl, hw, hk2⟩
  have K2 : Hid (Kp b w w2) := K1.out.trans hk2
  have O2 := Lib.hid hw
  have B2 := Lib.hid (boxed_kept hk2 hne B1.out)
  clear hw hk2
  go_wp2
  go_end0
  exact ⟨rfl, O2.out.mono (by omega), K2.out⟩
set_option maxRecDepth 100000 in
set_option maxHeartbeats 4000000 in
theorem wparts_5 (b : Nat) (o : ByteArray × Int) (p : Pk) (vc vp vw vs vf : Value) (w : World) (h : WO b 0 o w) (hp : PkIn b w p vc vp vw vs vf) (hk : p.kind = 5) :
    Calls Tryd.prog 11 #[.pointer (some ⟨b, 0, none⟩), .agg (pkCells p vc vp vw vs vf)] w (WP b 16777000 (PK.ending (PK.idd o p.id) p) w) := by
  obtain ⟨w0, k0, hb0⟩ := boxed h p vc vp vw vs vf
  have hne : w.heap.size ≠ b := by have := h.lt; omega
  have hp0 : PkIn b (w.alloc (.cells (pkCells p vc vp vw vs vf) 38)) p vc vp vw vs vf := hp.below k0.1
  have C1 := Lib.hid (wid_any b 0 o p.id _ w0 (by omega) hp.fine.id)
  have C2 : Hid (∀ W, Kp b w W → WO b (0 + 1) (PK.idd o p.id) W → Calls Tryd.prog 36 #[.pointer (some ⟨b, 0, none⟩), .agg (pkCells p vc vp vw vs vf)] W (WP b (0 + 1 + 1 + 1) (PK.ending (PK.idd o p.id) p) W)) := fun W hW hO => wending_any b (0 + 1) _ p _ _ _ _ _ W hO (by omega) (hp.below hW.1)
  have e1 : (p.kind == 1) = false := kind_eq hk (by decide)
  have e2 : (p.kind == 2) = false := kind_eq hk (by decide)
  have e3 : (p.kind == 3) = false := kind_eq hk (by decide)
  have e8 : (p.kind == 8) = false := kind_eq hk (by decide)
  have e10 : (p.kind == 10) = false := kind_eq hk (by decide)
  have e9 : (p.kind == 9) = false := kind_eq hk (by decide)
  have e11 : (p.kind == 11) = false := kind_eq hk (by decide)
  have e4 : (p.kind == 4) = false := kind_eq hk (by decide)
  have e5 : (p.kind == 5) = true := kind_eq hk (by decide)
  have e6 : (p.kind == 6) = false := kind_eq hk (by decide)
  have e7 : (p.kind == 7) = false := kind_eq hk (by decide)
  have e14 : (p.kind == 14) = false := kind_eq hk (by decide)
  have e15 : (p.kind == 15) = false := kind_eq hk (by decide)
  have K0 := Lib.hid k0
  have B0 := Lib.hid hb0
  have O0 := Lib.hid w0
  obtain ⟨q0, -⟩ := pk_cells hb0
  generalize PK.ending (PK.idd o p.id) p = oe at *
  generalize PK.idd o p.id = o1 at *
  obtain ⟨-, -, -, -, q4, -⟩ := pk_cells hb0
  clear h hp hp0 w0 k0 hb0 hk
  go_enter Tryd.func11, Tryd.ntmps11
  go_wp2_with fail
  refine (C1.out).mono ?_
  rintro e w1 ⟨rfl, hw, hk1⟩
  have K1 : Hid (Kp b w w1) := K0.out.trans hk1
  have O1 := Lib.hid hw
  have B1 := Lib.hid (boxed_kept hk1 hne B0.out)
  clear hw hk1
  clear q0 q4
  go_wp2_with (refine wpl_load_pk (by rfl) (.tmp 3) (by rfl) w.heap.size (by rfl) B1.out ?_)
  refine (C2.out _ K1.out O1.out).mono ?_
  rintro e w2 ⟨rfl, hw, hk2⟩
  have K2 : Hid (Kp b w w2) := K1.out.trans hk2
  have O2 := Lib.hid hw
  have B2 := Lib.hid (boxed_kept hk2 hne B1.out)
  clear hw hk2
  go_wp2
  go_end0
  exact ⟨rfl, O2.out.mono (by omega), K2.out⟩
set_option maxRecDepth 100000 in
set_option maxHeartbeats 4000000 in
theorem wparts_6 (b : Nat) (o : ByteArray × Int) (p : Pk) (vc vp vw vs vf : Value) (w : World) (h : WO b 0 o w) (hp : PkIn b w p vc vp vw vs vf) (hk : p.kind = 6) :
    Calls Tryd.prog 11 #[.pointer (some ⟨b, 0, none⟩), .agg (pkCells p vc vp vw vs vf)] w (WP b 16777000 (PK.ending (PK.idd o p.id) p) w) := by
  obtain ⟨w0, k0, hb0⟩ := boxed h p vc vp vw vs vf
  have hne : w.heap.size ≠ b := by have := h.lt; omega
  have hp0 : PkIn b (w.alloc (.cells (pkCells p vc vp vw vs vf) 38)) p vc vp vw vs vf := hp.below k0.1
  have C1 := Lib.hid (wid_any b 0 o p.id _ w0 (by omega) hp.fine.id)
  have C2 : Hid (∀ W, Kp b w W → WO b (0 + 1) (PK.idd o p.id) W → Calls Tryd.prog 36 #[.pointer (some ⟨b, 0, none⟩), .agg (pkCells p vc vp vw vs vf)] W (WP b (0 + 1 + 1 + 1) (PK.ending (PK.idd o p.id) p) W)) := fun W hW hO => wending_any b (0 + 1) _ p _ _ _ _ _ W hO (by omega) (hp.below hW.1)
  have e1 : (p.kind == 1) = false := kind_eq hk (by decide)
  have e2 : (p.kind == 2) = false := kind_eq hk (by decide)
  have e3 : (p.kind == 3) = false := kind_eq hk (by decide)
  have e8 : (p.kind == 8) = false := kind_eq hk (by decide)
  have e10 : (p.kind == 10) = false := kind_eq hk (by decide)
  have e9 : (p.kind == 9) = false := kind_eq hk (by decide)
  have e11 : (p.kind == 11) = false := kind_eq hk (by decide)
  have e4 : (p.kind == 4) = false := kind_eq hk (by decide)
  have e5 : (p.kind == 5) = false := kind_eq hk (by decide)
  have e6 : (p.kind == 6) = true := kind_eq hk (by decide)
  have e7 : (p.kind == 7) = false := kind_eq hk (by decide)
  have e14 : (p.kind == 14) = false := kind_eq hk (by decide)
  have e15 : (p.kind == 15) = false := kind_eq hk (by decide)
  have K0 := Lib.hid k0
  have B0 := Lib.hid hb0
  have O0 := Lib.hid w0
  obtain ⟨q0, -⟩ := pk_cells hb0
  generalize PK.ending (PK.idd o p.id) p = oe at *
  generalize PK.idd o p.id = o1 at *
  obtain ⟨-, -, -, -, q4, -⟩ := pk_cells hb0
  clear h hp hp0 w0 k0 hb0 hk
  go_enter Tryd.func11, Tryd.ntmps11
  go_wp2_with fail
  refine (C1.out).mono ?_
  rintro e w1 ⟨rfl, hw, hk1⟩
  have K1 : Hid (Kp b w w1) := K0.out.trans hk1
  have O1 := Lib.hid hw
  have B1 := Lib.hid (boxed_kept hk1 hne B0.out)
  clear hw hk1
  clear q0 q4
  go_wp2_with (refine wpl_load_pk (by rfl) (.tmp 3) (by rfl) w.heap.size (by rfl) B1.out ?_)
  refine (C2.out _ K1.out O1.out).mono ?_
  rintro e w2 ⟨rfl, hw, hk2⟩
  have K2 : Hid (Kp b w w2) := K1.out.trans hk2
  have O2 := Lib.hid hw
  have B2 := Lib.hid (boxed_kept hk2 hne B1.out)
  clear hw hk2
  go_wp2
  go_end0
  exact ⟨rfl, O2.out.mono (by omega), K2.out⟩
set_option maxRecDepth 100000 in
set_option maxHeartbeats 4000000 in
theorem wparts_7 (b : Nat) (o : ByteArray × Int) (p : Pk) (vc vp vw vs vf : Value) (w : World) (h : WO b 0 o w) (hp : PkIn b w p vc vp vw vs vf) (hk : p.kind = 7) :
    Calls Tryd.prog 11 #[.pointer (some ⟨b, 0, none⟩), .agg (pkCells p vc vp vw vs vf)] w (WP b 16777000 (PK.ending (PK.idd o p.id) p) w) := by
  obtain ⟨w0, k0, hb0⟩ := boxed h p vc vp vw vs vf
  have hne : w.heap.size ≠ b := by have := h.lt; omega
  have hp0 : PkIn b (w.alloc (.cells (pkCells p vc vp vw vs vf) 38)) p vc vp vw vs vf := hp.below k0.1
  have C1 := Lib.hid (wid_any b 0 o p.id _ w0 (by omega) hp.fine.id)
  have C2 : Hid (∀ W, Kp b w W → WO b (0 + 1) (PK.idd o p.id) W → Calls Tryd.prog 36 #[.pointer (some ⟨b, 0, none⟩), .agg (pkCells p vc vp vw vs vf)] W (WP b (0 + 1 + 1 + 1) (PK.ending (PK.idd o p.id) p) W)) := fun W hW hO => wending_any b (0 + 1) _ p _ _ _ _ _ W hO (by omega) (hp.below hW.1)
  have e1 : (p.kind == 1) = false := kind_eq hk (by decide)
  have e2 : (p.kind == 2) = false := kind_eq hk (by decide)
  have e3 : (p.kind == 3) = false := kind_eq hk (by decide)
  have e8 : (p.kind == 8) = false := kind_eq hk (by decide)
  have e10 : (p.kind == 10) = false := kind_eq hk (by decide)
  have e9 : (p.kind == 9) = false := kind_eq hk (by decide)
  have e11 : (p.kind == 11) = false := kind_eq hk (by decide)
  have e4 : (p.kind == 4) = false := kind_eq hk (by decide)
  have e5 : (p.kind == 5) = false := kind_eq hk (by decide)
  have e6 : (p.kind == 6) = false := kind_eq hk (by decide)
  have e7 : (p.kind == 7) = true := kind_eq hk (by decide)
  have e14 : (p.kind == 14) = false := kind_eq hk (by decide)
  have e15 : (p.kind == 15) = false := kind_eq hk (by decide)
  have K0 := Lib.hid k0
  have B0 := Lib.hid hb0
  have O0 := Lib.hid w0
  obtain ⟨q0, -⟩ := pk_cells hb0
  generalize PK.ending (PK.idd o p.id) p = oe at *
  generalize PK.idd o p.id = o1 at *
  obtain ⟨-, -, -, -, q4, -⟩ := pk_cells hb0
  clear h hp hp0 w0 k0 hb0 hk
  go_enter Tryd.func11, Tryd.ntmps11
  go_wp2_with fail
  refine (C1.out).mono ?_
  rintro e w1 ⟨rfl, hw, hk1⟩
  have K1 : Hid (Kp b w w1) := K0.out.trans hk1
  have O1 := Lib.hid hw
  have B1 := Lib.hid (boxed_kept hk1 hne B0.out)
  clear hw hk1
  clear q0 q4
  go_wp2_with (refine wpl_load_pk (by rfl) (.tmp 3) (by rfl) w.heap.size (by rfl) B1.out ?_)
  refine (C2.out _ K1.out O1.out).mono ?_
  rintro e w2 ⟨rfl, hw, hk2⟩
  have K2 : Hid (Kp b w w2) := K1.out.trans hk2
  have O2 := Lib.hid hw
  have B2 := Lib.hid (boxed_kept hk2 hne B1.out)
  clear hw hk2
  go_wp2
  go_end0
  exact ⟨rfl, O2.out.mono (by omega), K2.out⟩
set_option maxRecDepth 100000 in
set_option maxHeartbeats 4000000 in
theorem wparts_2 (b : Nat) (o : ByteArray × Int) (p : Pk) (vc vp vw vs vf : Value) (w : World) (h : WO b 0 o w) (hp : PkIn b w p vc vp vw vs vf) (hk : p.kind = 2) :
    Calls Tryd.prog 11 #[.pointer (some ⟨b, 0, none⟩), .agg (pkCells p vc vp vw vs vf)] w (WP b 16777000 (PK.pr (PK.nm (PK.nm o 1 (PK.fl p.session 1)) 1 p.code) p.kind p.props) w) := by
  obtain ⟨w0, k0, hb0⟩ := boxed h p vc vp vw vs vf
  have hne : w.heap.size ≠ b := by have := h.lt; omega
  have hp0 : PkIn b (w.alloc (.cells (pkCells p vc vp vw vs vf) 38)) p vc vp vw vs vf := hp.below k0.1
  obtain ⟨A, cap, rfl, hpr⟩ := hp.props
  have CF := Lib.hid flag_any
  have hfs : I64 (PK.fl p.session 1) := by unfold I64 PK.fl; split <;> decide
  have C1 := Lib.hid (wnumber_any b 0 o 1 (PK.fl p.session 1) _ w0 (by omega) hfs)
  have C2 : Hid (∀ W, WO b (0 + 1) (PK.nm o 1 (PK.fl p.session 1)) W → Calls Tryd.prog 26 #[.pointer (some ⟨b, 0, none⟩), .int .u8 p.code] W (WP b (0 + 1 + 1) (PK.nm (PK.nm o 1 (PK.fl p.session 1)) 1 p.code) W)) := fun W hO => wreason_any b (0 + 1) _ p.code W hO (by omega) hp.fine.code
  have C3 : Hid (∀ O W, Kp b w W → WO b (0 + 1 + 1) O W → Calls Tryd.prog 27 #[.pointer (some ⟨b, 0, none⟩), .int .i64 p.kind, .slice A p.props.length cap] W (WP b (0 + 1 + 1 + 1) (PK.pr O p.kind p.props) W)) := fun O W hW hO => wprops_any b (0 + 1 + 1) O p.kind A cap p.props W hO (by omega) (fun W' hk => hpr W' (hW.1.trans hk.1)) (fun W' hk => hp.tabs W' (hW.1.trans hk.1))
  have e1 : (p.kind == 1) = false := kind_eq hk (by decide)
  have e2 : (p.kind == 2) = true := kind_eq hk (by decide)
  have e3 : (p.kind == 3) = false := kind_eq hk (by decide)
  have e8 : (p.kind == 8) = false := kind_eq hk (by decide)
  have e10 : (p.kind == 10) = false := kind_eq hk (by decide)
  have e9 : (p.kind == 9) = false := kind_eq hk (by decide)
  have e11 : (p.kind == 11) = false := kind_eq hk (by decide)
  have e4 : (p.kind == 4) = false := kind_eq hk (by decide)
  have e5 : (p.kind == 5) = false := kind_eq hk (by decide)
  have e6 : (p.kind == 6) = false := kind_eq hk (by decide)
  have e7 : (p.kind == 7) = false := kind_eq hk (by decide)
  have e14 : (p.kind == 14) = false := kind_eq hk (by decide)
  have e15 : (p.kind == 15) = false := kind_eq hk (by decide)
  have K0 := Lib.hid k0
  have B0 := Lib.hid hb0
  have O0 := Lib.hid w0
  obtain ⟨q0, -⟩ := pk_cells hb0
  have CFS : Hid (∀ W, Calls Tryd.prog 23 #[.bool p.session, .int .i64 1] W fun e w' => e = .returned (.int .i64 (PK.fl p.session 1)) ∧ W = w') := fun W => flag_any p.session 1 W
  clear CF
  generalize PK.fl p.session 1 = fs at *
  generalize PK.nm (PK.nm o 1 fs) 1 p.code = o2 at *
  generalize PK.nm o 1 fs = o1 at *
  obtain ⟨-, -, -, -, -, -, -, -, -, -, -, -, -, -, -, -, -, -, -, -, -, -, -, q23, -⟩ := pk_cells hb0
  clear h hp hp0 w0 k0 hb0 hk hpr
  go_enter Tryd.func11, Tryd.ntmps11
  go_wp2_with fail
  refine (CFS.out _).mono ?_
  rintro e w' ⟨rfl, rfl⟩
  go_wp2_with fail
  refine (C1.out).mono ?_
  rintro e w1 ⟨rfl, hw, hk1⟩
  have K1 : Hid (Kp b w w1) := K0.out.trans hk1
  have O1 := Lib.hid hw
  have B1 := Lib.hid (boxed_kept hk1 hne B0.out)
  clear hw hk1
  clear q0 q23 C1
  obtain ⟨-, -, -, -, -, -, -, r7, -⟩ := pk_cells B1.out
  go_wp2_with fail
  refine (C2.out _ O1.out).mono ?_
  rintro e w2 ⟨rfl, hw, hk2⟩
  have K2 : Hid (Kp b w w2) := K1.out.trans hk2
  have O2 := Lib.hid hw
  have B2 := Lib.hid (boxed_kept hk2 hne B1.out)
  clear hw hk2
  clear r7 C2
  obtain ⟨s0, -, -, -, -, -, -, -, -, s9, -⟩ := pk_cells B2.out
  go_wp2_with fail
  refine (C3.out _ _ K2.out O2.out).mono ?_
  rintro e w3 ⟨rfl, hw, hk3⟩
  have K3 : Hid (Kp b w w3) := K2.out.trans hk3
  have O3 := Lib.hid hw
  have B3 := Lib.hid (boxed_kept hk3 hne B2.out)
  clear hw hk3
  go_wp2
  go_end0
  exact ⟨rfl, O3.out.mono (by omega), K3.out⟩
set_option maxRecDepth 100000 in
set_option maxHeartbeats 4000000 in
theorem wparts_8 (b : Nat) (o : ByteArray × Int) (p : Pk) (vc vp vw vs vf : Value) (w : World) (h : WO b 0 o w) (hp : PkIn b w p vc vp vw vs vf) (hk : p.kind = 8) :
    Calls Tryd.prog 11 #[.pointer (some ⟨b, 0, none⟩), .agg (pkCells p vc vp vw vs vf)] w (WP b 16777000 (PK.eachO (PK.head o p) p.subs PK.sub) w) := by
  obtain ⟨w0, k0, hb0⟩ := boxed h p vc vp vw vs vf
  have hne : w.heap.size ≠ b := by have := h.lt; omega
  have hp0 : PkIn b (w.alloc (.cells (pkCells p vc vp vw vs vf) 38)) p vc vp vw vs vf := hp.below k0.1
  obtain ⟨A, cap, rfl , hrr⟩ := hp.subs
  have hmf : ∀ (fn : Fn) (first cap : Array Value) (w : World), (Instr.makeFunc fn first cap).run Tryd.prog w = .ok (.func fn first cap) w := fun _ _ _ _ => rfl
  have C1 := Lib.hid (whead_any b 0 o p _ _ _ _ _ _ w0 (by omega) hp0)
  have C2 : Hid (∀ W, Kp b w W → WO b (0 + 1 + 1) (PK.head o p) W → Calls Tryd.prog 30 #[.pointer (some ⟨b, 0, none⟩), .slice A p.subs.length cap, .func (.func 31) #[.pointer (some ⟨b, 0, none⟩)] #[]] W (WP b (0 + 1 + 1 + 200) (PK.eachO (PK.head o p) p.subs PK.sub) W)) := fun W hW hO => weachs_any b (0 + 1 + 1) _ A cap p.subs W hO (by omega) (fun W' h' => hrr W' (hW.1.trans h')) hp.fine.subs (fun W' h' => hp.tabs W' (hW.1.trans h'))
  have e1 : (p.kind == 1) = false := kind_eq hk (by decide)
  have e2 : (p.kind == 2) = false := kind_eq hk (by decide)
  have e3 : (p.kind == 3) = false := kind_eq hk (by decide)
  have e8 : (p.kind == 8) = true := kind_eq hk (by decide)
  have e10 : (p.kind == 10) = false := kind_eq hk (by decide)
  have e9 : (p.kind == 9) = false := kind_eq hk (by decide)
  have e11 : (p.kind == 11) = false := kind_eq hk (by decide)
  have e4 : (p.kind == 4) = false := kind_eq hk (by decide)
  have e5 : (p.kind == 5) = false := kind_eq hk (by decide)
  have e6 : (p.kind == 6) = false := kind_eq hk (by decide)
  have e7 : (p.kind == 7) = false := kind_eq hk (by decide)
  have e14 : (p.kind == 14) = false := kind_eq hk (by decide)
  have e15 : (p.kind == 15) = false := kind_eq hk (by decide)
  have K0 := Lib.hid k0
  have B0 := Lib.hid hb0
  have O0 := Lib.hid w0
  obtain ⟨q0, -⟩ := pk_cells hb0
  generalize PK.eachO (PK.head o p) p.subs PK.sub = oe at *
  generalize PK.head o p = o1 at *
  clear h hp hp0 w0 k0 hb0 hk hrr
  go_enter Tryd.func11, Tryd.ntmps11
  go_wp2_with (refine wpl_load_pk (by rfl) (.tmp 3) (by rfl) w.heap.size (by rfl) B0.out ?_)
  refine (C1.out).mono ?_
  rintro e w1 ⟨rfl, hw, hk1⟩
  have K1 : Hid (Kp b w w1) := K0.out.trans hk1
  have O1 := Lib.hid hw
  have B1 := Lib.hid (boxed_kept hk1 hne B0.out)
  clear hw hk1
  clear q0 C1
  obtain ⟨-, -, -, -, -, -, -, -, -, -, -, -, -, -, -, -, -, -, -, -, -, -, -, -, r24, -⟩ := pk_cells B1.out
  go_wp2_with fail
  refine (C2.out _ K1.out O1.out).mono ?_
  rintro e w2 ⟨rfl, hw, hk2⟩
  have K2 : Hid (Kp b w w2) := K1.out.trans hk2
  have O2 := Lib.hid hw
  have B2 := Lib.hid (boxed_kept hk2 hne B1.out)
  clear hw hk2
  go_wp2
  go_end0
  exact ⟨rfl, O2.out.mono (by omega), K2.out⟩
set_option maxRecDepth 100000 in
set_option maxHeartbeats 4000000 in
theorem wparts_10 (b : Nat) (o : ByteArray × Int) (p : Pk) (vc vp vw vs vf : Value) (w : World) (h : WO b 0 o w) (hp : PkIn b w p vc vp vw vs vf) (hk : p.kind = 10) :
    Calls Tryd.prog 11 #[.pointer (some ⟨b, 0, none⟩), .agg (pkCells p vc vp vw vs vf)] w (WP b 16777000 (PK.eachO (PK.head o p) p.filters PK.tx) w) := by
  obtain ⟨w0, k0, hb0⟩ := boxed h p vc vp vw vs vf
  have hne : w.heap.size ≠ b := by have := h.lt; omega
  have hp0 : PkIn b (w.alloc (.cells (pkCells p vc vp vw vs vf) 38)) p vc vp vw vs vf := hp.below k0.1
  obtain ⟨A, cap, rfl , hrr⟩ := hp.filters
  have hmf : ∀ (fn : Fn) (first cap : Array Value) (w : World), (Instr.makeFunc fn first cap).run Tryd.prog w = .ok (.func fn first cap) w := fun _ _ _ _ => rfl
  have C1 := Lib.hid (whead_any b 0 o p _ _ _ _ _ _ w0 (by omega) hp0)
  have C2 : Hid (∀ W, Kp b w W → WO b (0 + 1 + 1) (PK.head o p) W → Calls Tryd.prog 32 #[.pointer (some ⟨b, 0, none⟩), .slice A p.filters.length cap, .func (.func 33) #[.pointer (some ⟨b, 0, none⟩)] #[]] W (WP b (0 + 1 + 1 + 200) (PK.eachO (PK.head o p) p.filters PK.tx) W)) := fun W hW hO => weacht_any b (0 + 1 + 1) _ A cap p.filters W hO (by omega) (fun W' h' => hrr W' (hW.1.trans h')) hp.fine.filters (fun W' h' => hp.tabs W' (hW.1.trans h'))
  have e1 : (p.kind == 1) = false := kind_eq hk (by decide)
  have e2 : (p.kind == 2) = false := kind_eq hk (by decide)
  have e3 : (p.kind == 3) = false := kind_eq hk (by decide)
  have e8 : (p.kind == 8) = false := kind_eq hk (by decide)
  have e10 : (p.kind == 10) = true := kind_eq hk (by decide)
  have e9 : (p.kind == 9) = false := kind_eq hk (by decide)
  have e11 : (p.kind == 11) = false := kind_eq hk (by decide)
  have e4 : (p.kind == 4) = false := kind_eq hk (by decide)
  have e5 : (p.kind == 5) = false := kind_eq hk (by decide)
  have e6 : (p.kind == 6) = false := kind_eq hk (by decide)
  have e7 : (p.kind == 7) = false := kind_eq hk (by decide)
  have e14 : (p.kind == 14) = false := kind_eq hk (by decide)
  have e15 : (p.kind == 15) = false := kind_eq hk (by decide)
  have K0 := Lib.hid k0
  have B0 := Lib.hid hb0
  have O0 := Lib.hid w0
  obtain ⟨q0, -⟩ := pk_cells hb0
  generalize PK.eachO (PK.head o p) p.filters PK.tx = oe at *
  generalize PK.head o p = o1 at *
  clear h hp hp0 w0 k0 hb0 hk hrr
  go_enter Tryd.func11, Tryd.ntmps11
  go_wp2_with (refine wpl_load_pk (by rfl) (.tmp 3) (by rfl) w.heap.size (by rfl) B0.out ?_)
  refine (C1.out).mono ?_
  rintro e w1 ⟨rfl, hw, hk1⟩
  have K1 : Hid (Kp b w w1) := K0.out.trans hk1
  have O1 := Lib.hid hw
  have B1 := Lib.hid (boxed_kept hk1 hne B0.out)
  clear hw hk1
  clear q0 C1
  obtain ⟨-, -, -, -, -, -, -, -, -, -, -, -, -, -, -, -, -, -, -, -, -, -, -, -, -, r25⟩ := pk_cells B1.out
  go_wp2_with fail
  refine (C2.out _ K1.out O1.out).mono ?_
  rintro e w2 ⟨rfl, hw, hk2⟩
  have K2 : Hid (Kp b w w2) := K1.out.trans hk2
  have O2 := Lib.hid hw
  have B2 := Lib.hid (boxed_kept hk2 hne B1.out)
  clear hw hk2
  go_wp2
  go_end0
  exact ⟨rfl, O2.out.mono (by omega), K2.out⟩
set_option maxRecDepth 100000 in
set_option maxHeartbeats 4000000 in
theorem wparts_9 (b : Nat) (o : ByteArray × Int) (p : Pk) (vc vp vw vs vf : Value) (w : World) (h : WO b 0 o w) (hp : PkIn b w p vc vp vw vs vf) (hk : p.kind = 9) :
    Calls Tryd.prog 11 #[.pointer (some ⟨b, 0, none⟩), .agg (pkCells p vc vp vw vs vf)] w (WP b 16777000 (PK.eachO (PK.head o p) p.codes (fun o c => PK.nm o 1 c)) w) := by
  obtain ⟨w0, k0, hb0⟩ := boxed h p vc vp vw vs vf
  have hne : w.heap.size ≠ b := by have := h.lt; omega
  have hp0 : PkIn b (w.alloc (.cells (pkCells p vc vp vw vs vf) 38)) p vc vp vw vs vf := hp.below k0.1
  obtain ⟨A, cap, rfl , hrr⟩ := hp.codes
  have hmf : ∀ (fn : Fn) (first cap : Array Value) (w : World), (Instr.makeFunc fn first cap).run Tryd.prog w = .ok (.func fn first cap) w := fun _ _ _ _ => rfl
  have C1 := Lib.hid (whead_any b 0 o p _ _ _ _ _ _ w0 (by omega) hp0)
  have C2 : Hid (∀ W, Kp b w W → WO b (0 + 1 + 1) (PK.head o p) W → Calls Tryd.prog 34 #[.pointer (some ⟨b, 0, none⟩), .slice A p.codes.length cap, .func (.func 26) #[.pointer (some ⟨b, 0, none⟩)] #[]] W (WP b (0 + 1 + 1 + 200) (PK.eachO (PK.head o p) p.codes (fun o c => PK.nm o 1 c)) W)) := fun W hW hO => weachc_any b (0 + 1 + 1) _ A cap p.codes W hO (by omega) (fun W' h' => hrr W' (hW.1.trans h')) hp.fine.codes
  have e1 : (p.kind == 1) = false := kind_eq hk (by decide)
  have e2 : (p.kind == 2) = false := kind_eq hk (by decide)
  have e3 : (p.kind == 3) = false := kind_eq hk (by decide)
  have e8 : (p.kind == 8) = false := kind_eq hk (by decide)
  have e10 : (p.kind == 10) = false := kind_eq hk (by decide)
  have e9 : (p.kind == 9) = true := kind_eq hk (by decide)
  have e11 : (p.kind == 11) = false := kind_eq hk (by decide)
  have e4 : (p.kind == 4) = false := kind_eq hk (by decide)
  have e5 : (p.kind == 5) = false := kind_eq hk (by decide)
  have e6 : (p.kind == 6) = false := kind_eq hk (by decide)
  have e7 : (p.kind == 7) = false := kind_eq hk (by decide)
  have e14 : (p.kind == 14) = false := kind_eq hk (by decide)
  have e15 : (p.kind == 15) = false := kind_eq hk (by decide)
  have K0 := Lib.hid k0
  have B0 := Lib.hid hb0
  have O0 := Lib.hid w0
  obtain ⟨q0, -⟩ := pk_cells hb0
  generalize PK.eachO (PK.head o p) p.codes (fun o c => PK.nm o 1 c) = oe at *
  generalize PK.head o p = o1 at *
  clear h hp hp0 w0 k0 hb0 hk hrr
  go_enter Tryd.func11, Tryd.ntmps11
  go_wp2_with (refine wpl_load_pk (by rfl) (.tmp 3) (by rfl) w.heap.size (by rfl) B0.out ?_)
  refine (C1.out).mono ?_
  rintro e w1 ⟨rfl, hw, hk1⟩
  have K1 : Hid (Kp b w w1) := K0.out.trans hk1
  have O1 := Lib.hid hw
  have B1 := Lib.hid (boxed_kept hk1 hne B0.out)
  clear hw hk1
  clear q0 C1
  obtain ⟨-, -, -, -, -, -, -, -, r8, -⟩ := pk_cells B1.out
  go_wp2_with fail
  refine (C2.out _ K1.out O1.out).mono ?_
  rintro e w2 ⟨rfl, hw, hk2⟩
  have K2 : Hid (Kp b w w2) := K1.out.trans hk2
  have O2 := Lib.hid hw
  have B2 := Lib.hid (boxed_kept hk2 hne B1.out)
  clear hw hk2
  go_wp2
  go_end0
  exact ⟨rfl, O2.out.mono (by omega), K2.out⟩
set_option maxRecDepth 100000 in
set_option maxHeartbeats 4000000 in
theorem wparts_11 (b : Nat) (o : ByteArray × Int) (p : Pk) (vc vp vw vs vf : Value) (w : World) (h : WO b 0 o w) (hp : PkIn b w p vc vp vw vs vf) (hk : p.kind = 11) :
    Calls Tryd.prog 11 #[.pointer (some ⟨b, 0, none⟩), .agg (pkCells p vc vp vw vs vf)] w (WP b 16777000 (PK.eachO (PK.head o p) p.codes (fun o c => PK.nm o 1 c)) w) := by
  obtain ⟨w0, k0, hb0⟩ := boxed h p vc vp vw vs vf
  have hne : w.heap.size ≠ b := by have := h.lt; omega
  have hp0 : PkIn b (w.alloc (.cells (pkCells p vc vp vw vs vf) 38)) p vc vp vw vs vf := hp.below k0.1
  obtain ⟨A, cap, rfl , hrr⟩ := hp.codes
  have hmf : ∀ (fn : Fn) (first cap : Array Value) (w : World), (Instr.makeFunc fn first cap).run Tryd.prog w = .ok (.func fn first cap) w := fun _ _ _ _ => rfl
  have C1 := Lib.hid (whead_any b 0 o p _ _ _ _ _ _ w0 (by omega) hp0)
  have C2 : Hid (∀ W, Kp b w W → WO b (0 + 1 + 1) (PK.head o p) W → Calls Tryd.prog 34 #[.pointer (some ⟨b, 0, none⟩), .slice A p.codes.length cap, .func (.func 26) #[.pointer (some ⟨b, 0, none⟩)] #[]] W (WP b (0 + 1 + 1 + 200) (PK.eachO (PK.head o p) p.codes (fun o c => PK.nm o 1 c)) W)) := fun W hW hO => weachc_any b (0 + 1 + 1) _ A cap p.codes W hO (by omega) (fun W' h' => hrr W' (hW.1.trans h')) hp.fine.codes
  have e1 : (p.kind == 1) = false := kind_eq hk (by decide)
  have e2 : (p.kind == 2) = false := kind_eq hk (by decide)
  have e3 : (p.kind == 3) = false := kind_eq hk (by decide)
  have e8 : (p.kind == 8) = false := kind_eq hk (by decide)
  have e10 : (p.kind == 10) = false := kind_eq hk (by decide)
  have e9 : (p.kind == 9) = false := kind_eq hk (by decide)
  have e11 : (p.kind == 11) = true := kind_eq hk (by decide)
  have e4 : (p.kind == 4) = false := kind_eq hk (by decide)
  have e5 : (p.kind == 5) = false := kind_eq hk (by decide)
  have e6 : (p.kind == 6) = false := kind_eq hk (by decide)
  have e7 : (p.kind == 7) = false := kind_eq hk (by decide)
  have e14 : (p.kind == 14) = false := kind_eq hk (by decide)
  have e15 : (p.kind == 15) = false := kind_eq hk (by decide)
  have K0 := Lib.hid k0
  have B0 := Lib.hid hb0
  have O0 := Lib.hid w0
  obtain ⟨q0, -⟩ := pk_cells hb0
  generalize PK.eachO (PK.head o p) p.codes (fun o c => PK.nm o 1 c) = oe at *
  generalize PK.head o p = o1 at *
  clear h hp hp0 w0 k0 hb0 hk hrr
  go_enter Tryd.func11, Tryd.ntmps11
  go_wp2_with (refine wpl_load_pk (by rfl) (.tmp 3) (by rfl) w.heap.size (by rfl) B0.out ?_)
  refine (C1.out).mono ?_
  rintro e w1 ⟨rfl, hw, hk1⟩
  have K1 : Hid (Kp b w w1) := K0.out.trans hk1
  have O1 := Lib.hid hw
  have B1 := Lib.hid (boxed_kept hk1 hne B0.out)
  clear hw hk1
  clear q0 C1
  obtain ⟨-, -, -, -, -, -, -, -, r8, -⟩ := pk_cells B1.out
  go_wp2_with fail
  refine (C2.out _ K1.out O1.out).mono ?_
  rintro e w2 ⟨rfl, hw, hk2⟩
  have K2 : Hid (Kp b w w2) := K1.out.trans hk2
  have O2 := Lib.hid hw
  have B2 := Lib.hid (boxed_kept hk2 hne B1.out)
  clear hw hk2
  go_wp2
  go_end0
  exact ⟨rfl, O2.out.mono (by omega), K2.out⟩
set_option maxRecDepth 100000 in
set_option maxHeartbeats 4000000 in
theorem wparts_no (b : Nat) (o : ByteArray × Int) (p : Pk) (vc vp vw vs vf : Value) (w : World) (h : WO b 0 o w) (hk : ∀ m : Int, m = 1 ∨ m = 2 ∨ m = 3 ∨ m = 8 ∨ m = 10 ∨ m = 9 ∨ m = 11 ∨ m = 4 ∨ m = 5 ∨ m = 6 ∨ m = 7 ∨ m = 14 ∨ m = 15 → p.kind ≠ m) :
    Calls Tryd.prog 11 #[.pointer (some ⟨b, 0, none⟩), .agg (pkCells p vc vp vw vs vf)] w (WP b 16777000 o w) := by
  obtain ⟨w0, k0, hb0⟩ := boxed h p vc vp vw vs vf
  have e1 : (p.kind == 1) = false := by rw [beq_eq_false_iff_ne]; exact hk 1 (by decide)
  have e2 : (p.kind == 2) = false := by rw [beq_eq_false_iff_ne]; exact hk 2 (by decide)
  have e3 : (p.kind == 3) = false := by rw [beq_eq_false_iff_ne]; exact hk 3 (by decide)
  have e8 : (p.kind == 8) = false := by rw [beq_eq_false_iff_ne]; exact hk 8 (by decide)
  have e10 : (p.kind == 10) = false := by rw [beq_eq_false_iff_ne]; exact hk 10 (by decide)
  have e9 : (p.kind == 9) = false := by rw [beq_eq_false_iff_ne]; exact hk 9 (by decide)
  have e11 : (p.kind == 11) = false := by rw [beq_eq_false_iff_ne]; exact hk 11 (by decide)
  have e4 : (p.kind == 4) = false := by rw [beq_eq_false_iff_ne]; exact hk 4 (by decide)
  have e5 : (p.kind == 5) = false := by rw [beq_eq_false_iff_ne]; exact hk 5 (by decide)
  have e6 : (p.kind == 6) = false := by rw [beq_eq_false_iff_ne]; exact hk 6 (by decide)
  have e7 : (p.kind == 7) = false := by rw [beq_eq_false_iff_ne]; exact hk 7 (by decide)
  have e14 : (p.kind == 14) = false := by rw [beq_eq_false_iff_ne]; exact hk 14 (by decide)
  have e15 : (p.kind == 15) = false := by rw [beq_eq_false_iff_ne]; exact hk 15 (by decide)
  have K0 := Lib.hid k0
  have B0 := Lib.hid hb0
  have O0 := Lib.hid w0
  obtain ⟨q0, -⟩ := pk_cells hb0
  clear h w0 k0 hb0 hk
  go_enter Tryd.func11, Tryd.ntmps11
  go_wp2
  go_end0
  exact ⟨rfl, O0.out.mono (by omega), K0.out⟩
theorem wparts_any (b : Nat) (o : ByteArray × Int) (p : Pk) (vc vp vw vs vf : Value) (w : World) (h : WO b 0 o w) (hp : PkIn b w p vc vp vw vs vf) :
    Calls Tryd.prog 11 #[.pointer (some ⟨b, 0, none⟩), .agg (pkCells p vc vp vw vs vf)] w (WP b 16777000 (PK.parts o p) w) := by
  unfold PK.parts
  by_cases h1 : p.kind = 1
  · rw [if_pos h1]; exact wparts_1 b o p _ _ _ _ _ w h hp h1
  · rw [if_neg h1]
    by_cases h2 : p.kind = 2
    · rw [if_pos h2]; exact wparts_2 b o p _ _ _ _ _ w h hp h2
    · rw [if_neg h2]
      by_cases h3 : p.kind = 3
      · rw [if_pos h3]; exact wparts_3 b o p _ _ _ _ _ w h hp h3
      · rw [if_neg h3]
        by_cases h8 : p.kind = 8
        · rw [if_pos h8]; exact wparts_8 b o p _ _ _ _ _ w h hp h8
        · rw [if_neg h8]
          by_cases h10 : p.kind = 10
          · rw [if_pos h10]; exact wparts_10 b o p _ _ _ _ _ w h hp h10
          · rw [if_neg h10]
            by_cases h9 : p.kind = 9 ∨ p.kind = 11
            · rw [if_pos h9]
              rcases h9 with h9 | h9
              · exact wparts_9 b o p _ _ _ _ _ w h hp h9
              · exact wparts_11 b o p _ _ _ _ _ w h hp h9
            · rw [if_neg h9]
              by_cases h4 : p.kind = 4 ∨ p.kind = 5 ∨ p.kind = 6 ∨ p.kind = 7
              · rw [if_pos h4]
                rcases h4 with h4 | h4 | h4 | h4
                · exact wparts_4 b o p _ _ _ _ _ w h hp h4
                · exact wparts_5 b o p _ _ _ _ _ w h hp h4
                · exact wparts_6 b o p _ _ _ _ _ w h hp h4
                · exact wparts_7 b o p _ _ _ _ _ w h hp h4
              · rw [if_neg h4]
                by_cases h14 : p.kind = 14 ∨ p.kind = 15
                · rw [if_pos h14]
                  rcases h14 with h14 | h14
                  · exact wparts_14 b o p _ _ _ _ _ w h hp h14
                  · exact wparts_15 b o p _ _ _ _ _ w h hp h14
                · rw [if_neg h14]
                  exact wparts_no b o p _ _ _ _ _ w h (fun m hm he => by omega)
end Go.Proofs.YtlfgndhdifpngaaDoor
namespace Go.Proofs.YtlfgndhdifpngaaDoor
open Go.RowKit
attribute [local go_sem ↓] Go.wp_at_zero Go.wp_at_succ

theorem PkIn.lift {a b : Nat} {w w' : World} {p : Pk} {vc vp vw vs vf : Value} (h : PkIn a w p vc vp vw vs vf) (hab : a ≤ b) (hb : Below a w w') : PkIn b w' p vc vp vw vs vf where
  fine := h.fine
  tabs := fun W hW => h.tabs W (hb.trans (hW.mono hab))
  props := by obtain ⟨A, c, h1, h2⟩ := h.props; exact ⟨A, c, h1, fun W hW => h2 W (hb.trans (hW.mono hab))⟩
  wprops := by obtain ⟨A, c, h1, h2⟩ := h.wprops; exact ⟨A, c, h1, fun W hW => h2 W (hb.trans (hW.mono hab))⟩
  codes := by obtain ⟨A, c, h1, h2⟩ := h.codes; exact ⟨A, c, h1, fun W hW => h2 W (hb.trans (hW.mono hab))⟩
  subs := by obtain ⟨A, c, h1, h2⟩ := h.subs; exact ⟨A, c, h1, fun W hW => h2 W (hb.trans (hW.mono hab))⟩
  filters := by obtain ⟨A, c, h1, h2⟩ := h.filters; exact ⟨A, c, h1, fun W hW => h2 W (hb.trans (hW.mono hab))⟩
namespace PK
theorem isK_is (k : Int) : isK k = true ↔ ¬ (k < 1 ∨ 15 < k) := by
  unfold isK; simp only [Bool.and_eq_true, decide_eq_true_eq]; omega
section
variable {o : ByteArray × Int} (h : o.2 ≠ 0)
include h
theorem tx_bad (s : ByteArray) : tx o s = o := ad_bad h _ _
theorem dt_bad (s : ByteArray) : dt o s = o := ad_bad h _ _
theorem pr_bad (k : Int) (l : List Pr) : pr o k l = o := by unfold pr; rw [ad_bad h, rf_bad h]; split <;> rfl
theorem idd_bad (n : Int) : idd o n = o := by unfold idd; rw [rf_bad h, ite_self, nm_bad h]
theorem sub_bad (s : Sb) : sub o s = o := by unfold sub; rw [tx_bad h, nm_bad h, rf_bad h]; split <;> rfl
theorem head_bad (p : Pk) : head o p = o := by unfold head; rw [idd_bad h, pr_bad h]
theorem ending_bad (p : Pk) : ending o p = o := by unfold ending; rw [nm_bad h, pr_bad h]; split <;> (try split) <;> rfl
omit h in
theorem fold_bad {α : Type} (f : ByteArray × Int → α → ByteArray × Int) (hf : ∀ x, f o x = o) (l : List α) : l.foldl f o = o := by
  induction l with
  | nil => rfl
  | cons a l ih => rw [List.foldl_cons, hf, ih]
theorem eachO_bad {α : Type} (f : ByteArray × Int → α → ByteArray × Int) (hf : ∀ x, f o x = o) (l : List α) : eachO o l f = o := by
  unfold eachO; rw [rf_bad h, rf_bad h, fold_bad f hf]; split <;> (try split) <;> rfl
theorem cflags_bad (p : Pk) : cflags o p = o := by unfold cflags; rw [rf_bad h, nm_bad h]; split <;> rfl
theorem conn_bad (p : Pk) : conn o p = o := by
  unfold conn conn1
  rw [tx_bad h, nm_bad h, cflags_bad h, nm_bad h, pr_bad h, tx_bad h]
  unfold conn2
  rw [pr_bad h, tx_bad h, dt_bad h, ite_self]
  unfold conn3
  rw [tx_bad h, ite_self]
  unfold conn4
  rw [dt_bad h, ite_self]
theorem pub_bad (p : Pk) : pub o p = o := by
  unfold pub pub1
  rw [tx_bad h, idd_bad h, ite_self, pr_bad h, ad_bad h]
theorem parts_bad (p : Pk) : parts o p = o := by
  unfold parts
  rw [conn_bad h, nm_bad h, nm_bad h, pr_bad h, pub_bad h, head_bad h, eachO_bad h _ (sub_bad h), eachO_bad h _ (tx_bad h), eachO_bad h _ (fun c => nm_bad h 1 c), idd_bad h, ending_bad h]
  repeat' split
  all_goals rfl
end
theorem flagsN_le {p : Pk} (h : (flagsO p).2 = 0) : 0 ≤ flagsN p ∧ flagsN p ≤ 15 := by
  unfold flagsO at h
  unfold flagsN
  by_cases h3 : p.kind = 3
  · rw [if_pos h3]
    have hc : canPub p = true := by
      by_cases hc : canPub p = true
      · exact hc
      · rw [if_pos ⟨h3, by simpa using hc⟩] at h; exact absurd h (by decide)
    unfold canPub isQ at hc
    simp only [Bool.and_eq_true, decide_eq_true_eq] at hc
    have f1 : 0 ≤ fl p.dup 8 ∧ fl p.dup 8 ≤ 8 := by unfold fl; split <;> decide
    have f2 : 0 ≤ fl p.ret 1 ∧ fl p.ret 1 ≤ 1 := by unfold fl; split <;> decide
    omega
  · rw [if_neg h3]; split <;> decide
end PK
theorem first_or {k f : Int} (hk : 0 ≤ k ∧ k ≤ 15) (hf : 0 ≤ f ∧ f ≤ 15) : bits .or .i64 (k * 16) f = 16 * k + f := by
  have h : ∀ a b : Fin 16, bits .or .i64 ((a.val : Int) * 16) (b.val : Int) = 16 * (a.val : Int) + (b.val : Int) := by decide +kernel
  have := h ⟨k.toNat, by omega⟩ ⟨f.toNat, by omega⟩
  simp only at this
  rwa [show ((k.toNat : Nat) : Int) = k by omega, show ((f.toNat : Nat) : Int) = f by omega] at this

set_option maxRecDepth 100000 in
set_option maxHeartbeats 8000000 in
theorem pput_any (p : Pk) (vc vp vw vs vf : Value) (w : World) (hp : PkIn w.heap.size w p vc vp vw vs vf) :
    Calls Tryd.prog 5 #[.agg (pkCells p vc vp vw vs vf)] w fun e w' => e = .returned (.tuple #[.string (PK.putS p), .int .u8 (PK.putC p)]) ∧ Below w.heap.size w w' := by
  have hal := (Below.refl w.heap.size w).alloc (Nat.le_refl _) (.cells (pkCells p vc vp vw vs vf) 38)
  have hb0 : (w.alloc (.cells (pkCells p vc vp vw vs vf) 38)).heap[w.heap.size]? = some (.cells (pkCells p vc vp vw vs vf) 38 (0, 0)) := heap_alloc_new w _
  have hs1 : w.heap.size + 1 = (w.alloc (.cells (pkCells p vc vp vw vs vf) 38)).heap.size := by simp
  obtain ⟨q0, -⟩ := pk_cells hb0
  have CK := Lib.hid iskind_any
  have Hal := Lib.hid hal
  have HE1 : Hid (PK.putC p = if p.kind < 1 ∨ 15 < p.kind then 129 else if (PK.bodyO p).2 ≠ 0 then (PK.bodyO p).2 else if 65536 < (PK.bodyO p).1.size then 149 else 0) := rfl
  have HE2 : Hid (PK.putS p = if PK.putC p ≠ 0 then ⟨#[]⟩ else strOfNums (VP.fixL 1 (16 * p.kind + PK.flagsN p)) ++ strOfNums (VP.putL (PK.bodyO p).1.size) ++ (PK.bodyO p).1) := rfl
  by_cases hk : PK.isK p.kind = true
  · have hk' := (PK.isK_is _).1 hk
    have hk1 : 1 ≤ p.kind := by omega
    have hk2 : p.kind ≤ 15 := by omega
    have E1 : Hid (PK.putC p = if (PK.bodyO p).2 ≠ 0 then (PK.bodyO p).2 else if 65536 < (PK.bodyO p).1.size then 149 else 0) := Lib.hid (by rw [HE1.out, if_neg hk'])
    have HK := Lib.hid hk
    clear HE1 hk hk'
    have hb1 : ((w.alloc (.cells (pkCells p vc vp vw vs vf) 38)).alloc (.cells #[.pointer none, .slice none 0 0, .int .u8 0] 65)).heap[w.heap.size]? = some (.cells (pkCells p vc vp vw vs vf) 38 (0, 0)) := (Below.heap_alloc _ _ _ (by rw [← hs1]; omega)).trans hb0
    have hal2 := (Below.refl (w.heap.size + 1) (w.alloc (.cells (pkCells p vc vp vw vs vf) 38))).alloc (Nat.le_of_eq hs1) (.cells #[.pointer none, .slice none 0 0, .int .u8 0] 65)
    have hwr := Wr.new (w.alloc (.cells (pkCells p vc vp vw vs vf) 38))
    rw [← hs1] at hwr
    have hwo : WO (w.heap.size + 1) 0 (⟨#[]⟩, 0) ((w.alloc (.cells (pkCells p vc vp vw vs vf) 38)).alloc (.cells #[.pointer none, .slice none 0 0, .int .u8 0] 65)) := ⟨[], hwr, Nat.zero_le _, fun _ => rfl, Int.le_refl 0, (by decide : (0 : Int) ≤ 255)⟩
    have hB1 : Below w.heap.size w ((w.alloc (.cells (pkCells p vc vp vw vs vf) 38)).alloc (.cells #[.pointer none, .slice none 0 0, .int .u8 0] 65)) := hal.trans (hal2.mono (Nat.le_succ _))
    have hp1 := hp.lift (Nat.le_succ _) hB1
    have C1 := Lib.hid (wflags_any (w.heap.size + 1) p vc vp vw vs vf _ hwo hp.fine)
    have HB1 := Lib.hid hB1
    have HP1 := Lib.hid hp1
    have HX1 := Lib.hid hb1
    have hne : w.heap.size ≠ w.heap.size + 1 := by omega
    clear hp hal hb0 hs1 hb1 hal2 hwr hwo hB1 hp1
    go_enter Tryd.func5, Tryd.ntmps5
    go_wp2_with fail
    refine (CK.out _ _).mono ?_
    rintro e w' ⟨rfl, rfl⟩
    rw [HK.out]
    go_wp2_with (refine wpl_load_pk (by rfl) (.tmp 1) (by rfl) w.heap.size (by rfl) HX1.out ?_)
    generalize (w.alloc (.cells (pkCells p vc vp vw vs vf) 38)).alloc (.cells #[.pointer none, .slice none 0 0, .int .u8 0] 65) = W1 at *
    refine C1.out.mono ?_
    rintro e w2 ⟨v, rfl, hv, hv64, ho2, hk2_⟩
    have HX2 := Lib.hid (boxed_kept hk2_ hne HX1.out)
    have HB2 : Hid (Below w.heap.size w w2) := HB1.out.trans (hk2_.1.mono (Nat.le_succ _))
    have C2 := Lib.hid (wparts_any (w.heap.size + 1) (PK.flagsO p) p vc vp vw vs vf w2 ho2 (HP1.out.below hk2_.1))
    have HV := Lib.hid hv
    have HV64 := Lib.hid hv64
    have EB : Hid (PK.bodyO p = PK.parts (PK.flagsO p) p) := rfl
    have EF : Hid ((PK.bodyO p).2 = 0 → (PK.flagsO p).2 = 0) := Lib.hid (fun h => by
      by_cases hf : (PK.flagsO p).2 = 0
      · exact hf
      · unfold PK.bodyO at h; rw [PK.parts_bad hf] at h; exact h)
    rw [← EB.out] at C2
    clear hv hv64 ho2 hk2_ C1 CK q0
    go_wp2_with (refine wpl_load_pk (by rfl) (.tmp 1) (by rfl) w.heap.size (by rfl) HX2.out ?_)
    refine C2.out.mono ?_
    rintro e w3 ⟨rfl, ⟨l, hw3, hl3, hl3', hc3⟩, hk3⟩
    have HX3 := Lib.hid (boxed_kept hk3 hne HX2.out)
    have HB3 : Hid (Below w.heap.size w w3) := HB2.out.trans (hk3.1.mono (Nat.le_succ _))
    obtain ⟨q2, -⟩ := code_cell hw3
    have HW3 := Lib.hid hw3
    have HL3 := Lib.hid hl3'
    clear hk3 C2 hw3 hl3' EB
    by_cases hc : (PK.bodyO p).2 = 0
    · have e0 : ((PK.bodyO p).2 != 0) = false := by simp [hc]
      have hvv : v = PK.flagsN p := HV.out (EF.out hc)
      have hfl := PK.flagsN_le (EF.out hc)
      rw [← hvv] at hfl
      have hbd : (⟨l.toArray⟩ : ByteArray) = (PK.bodyO p).1 := HL3.out hc
      have hln : l.length = (PK.bodyO p).1.size := by rw [← hbd]; simp [ByteArray.size]
      have CL := Lib.hid (wlen_any _ _ _ w3 HW3.out)
      have hf0 := hfl.1; have hf1 := hfl.2
      by_cases h65 : 65536 < (PK.bodyO p).1.size
      · have i65 : (65536 : Int) < (l.length : Int) := by omega
        have F1 : Hid (PK.putC p = 149) := Lib.hid (by rw [E1.out, if_neg (by simp [hc]), if_pos h65])
        have F2 : Hid (PK.putS p = ⟨#[]⟩) := Lib.hid (by rw [HE2.out, if_pos (by rw [F1.out]; decide)])
        clear E1 HE2 hc EF HL3 hvv hbd hln h65 HV hfl
        go_wp2_with fail
        refine CL.out.mono ?_
        rintro e w' ⟨rfl, rfl⟩
        go_wp2
        go_ret2
        exact ⟨by rw [F1.out, F2.out]; rfl, HB3.out⟩
      · have i65 : ¬ (65536 : Int) < (l.length : Int) := by omega
        have F1 : Hid (PK.putC p = 0) := Lib.hid (by rw [E1.out, if_neg (by simp [hc]), if_neg h65])
        have F2 : Hid (PK.putS p = strOfNums (VP.fixL 1 (bits .or .i64 (p.kind * 16) v)) ++ strOfNums (VP.putL (l.length : Int)) ++ ⟨l.toArray⟩) := Lib.hid (by rw [HE2.out, if_neg (by simp [F1.out]), hbd, hln, first_or ⟨by omega, hk2⟩ hfl, hvv])
        have hX := first_or (k := p.kind) (f := v) ⟨by omega, hk2⟩ hfl
        have C4 : Hid (Calls Tryd.prog 13 #[.int .i64 1, .int .i64 (bits .or .i64 (p.kind * 16) v)] w3 fun e w' => e = .returned (.tuple #[.string (strOfNums (VP.fixL 1 (bits .or .i64 (p.kind * 16) v))), .int .u8 (VP.fixC 1 (bits .or .i64 (p.kind * 16) v))]) ∧ Below w3.heap.size w3 w') := Lib.hid (fixed_any 1 _ (by rw [hX]; omega) (by rw [hX]; omega) w3)
        have C5 := Lib.hid (put_any (l.length : Int))
        have CS : Hid (∀ W, Below w3.heap.size w3 W → Calls Tryd.prog 15 #[.pointer (some ⟨w.heap.size + 1, 0, none⟩)] W fun e w' => e = .returned (.string ⟨l.toArray⟩) ∧ Below (w.heap.size + 1) W w') := fun W hW => wstring_any _ l _ W (HW3.out.below hW)
        have CL2 : Hid (∀ W, Below w3.heap.size w3 W → Calls Tryd.prog 12 #[.pointer (some ⟨w.heap.size + 1, 0, none⟩)] W fun e w' => e = .returned (.int .i64 l.length) ∧ W = w') := fun W hW => wlen_any _ l _ W (HW3.out.below hW)
        obtain ⟨q30, -⟩ := pk_cells HX3.out
        have zf := fix_size 1 (bits .or .i64 (p.kind * 16) v)
        have zp : (strOfNums (VP.putL (l.length : Int))).size ≤ 4 := by rw [strOfNums_size]; exact PR.putL_len _
        have HX := Lib.hid hX
        have hl65 : l.length ≤ 65536 := by omega
        have hll : (⟨l.toArray⟩ : ByteArray).size = l.length := by simp [ByteArray.size]
        have Hll := Lib.hid hll
        clear E1 HE2 hc EF HL3 hvv hbd hln h65 HV hfl hX hll
        go_wp2_with fail
        refine CL.out.mono ?_
        rintro e w' ⟨rfl, rfl⟩
        go_wp2_with fail
        refine C4.out.mono ?_
        rintro e w4 ⟨rfl, b4⟩
        have D4 := Lib.hid (CL2.out w4 b4)
        have B4 := Lib.hid b4
        clear b4 C4 CL
        go_wp2_with fail
        refine D4.out.mono ?_
        rintro e w' ⟨rfl, rfl⟩
        go_wp2_with fail
        refine (C5.out _).mono ?_
        rintro e w5 ⟨rfl, b5⟩
        have B5 : Hid (Below w3.heap.size w3 w5) := B4.out.trans (b5.mono B4.out.size)
        have D5 := Lib.hid (CS.out w5 B5.out)
        clear b5 C5 CS CL2 D4
        go_wp2_with fail
        refine D5.out.mono ?_
        rintro e w6 ⟨rfl, b6⟩
        have B6 : Hid (Below w.heap.size w w6) := (HB3.out.trans (B5.out.mono HB3.out.size)).trans (b6.mono (Nat.le_succ _))
        clear b6 D5
        go_wp2
        go_ret2
        exact ⟨by rw [F1.out, F2.out]; rfl, B6.out⟩
    · have e0 : ((PK.bodyO p).2 != 0) = true := by rw [bne_iff_ne]; exact hc
      have F1 : Hid (PK.putC p = (PK.bodyO p).2) := Lib.hid (by rw [E1.out, if_pos hc])
      have F2 : Hid (PK.putS p = ⟨#[]⟩) := Lib.hid (by rw [HE2.out, if_pos (by rw [F1.out]; exact hc)])
      clear E1 HE2 hc EF HL3
      go_wp2_with fail
      go_quiet (fail)
      go_wp2
      go_ret2
      exact ⟨by rw [F1.out, F2.out]; rfl, HB3.out.trans (drewN_below _ _ _)⟩
  · have hk' : p.kind < 1 ∨ 15 < p.kind := by
      by_cases h : p.kind < 1 ∨ 15 < p.kind
      · exact h
      · exact absurd ((PK.isK_is _).2 h) hk
    have E1 : Hid (PK.putC p = 129) := Lib.hid (by rw [HE1.out, if_pos hk'])
    have E2 : Hid (PK.putS p = ⟨#[]⟩) := Lib.hid (by rw [HE2.out, if_pos (by rw [E1.out]; decide)])
    have HK : Hid (PK.isK p.kind = false) := Lib.hid (by simpa using hk)
    generalize PK.putS p = S at *
    generalize PK.putC p = c at *
    clear HE1 HE2 hk hk' hp hal hb0 hs1
    go_enter Tryd.func5, Tryd.ntmps5
    go_wp2_with fail
    refine (CK.out _ _).mono ?_
    rintro e w' ⟨rfl, rfl⟩
    rw [HK.out]
    go_wp2
    go_ret2
    exact ⟨by rw [E1.out, E2.out]; rfl, Hal.out⟩
end Go.Proofs.YtlfgndhdifpngaaDoor
namespace Go.Proofs.YtlfgndhdifpngaaDoor
open Go.RowKit
attribute [local go_sem ↓] Go.wp_at_zero Go.wp_at_succ

/-- All but the reader's block stands. -/
def Gr (r : Nat) (w w' : World) : Prop := w.grownBy w' (some r)
theorem Gr.refl (r : Nat) (w : World) : Gr r w w := ⟨rfl, rfl, rfl, Nat.le_refl _, fun _ _ _ => rfl⟩
theorem Gr.trans {r : Nat} {w1 w2 w3 : World} (h : Gr r w1 w2) (k : Gr r w2 w3) : Gr r w1 w3 :=
  ⟨k.os.trans h.os, k.tape.trans h.tape, k.output.trans h.output, Nat.le_trans h.size k.size, fun i hi hne => (k.block i (Nat.lt_of_lt_of_le hi h.size) hne).trans (h.block i hi hne)⟩
theorem Gr.of_below {r : Nat} {w w' : World} (h : Below w.heap.size w w') : Gr r w w' := ⟨h.os, h.tape, h.output, h.size, fun i hi _ => h.block i hi⟩
theorem Gr.of_drew {r : Nat} {w w' : World} (h : Gr r w.drew w') : Gr r w w' := ⟨h.os, h.tape, h.output, h.size, h.block⟩
theorem Gr.setCell {r : Nat} {w w' : World} (h : Gr r w w') (j : Nat) (u : Value) : Gr r w (w'.setCell ⟨r, j, none⟩ u) :=
  h.trans ⟨rfl, rfl, rfl, by simp [World.setCell], fun i _ hi => Below.heap_setCell _ _ _ _ (fun e => hi (by simp [e]))⟩
/-- What isn't whole never will be. -/
def cm (c : Int) : Int := if c = 242 then 129 else c

end Go.Proofs.YtlfgndhdifpngaaDoor
namespace Go.Proofs.YtlfgndhdifpngaaDoor
namespace PR

/-- A place moved by f, where one was found. -/
def sh (f : Int) (x : Int × Int × Int) : Int × Int × Int := (x.1, if x.2.2 = 0 then f + x.2.1 else x.2.1, x.2.2)
def shS (f : Int) (x : ByteArray × Int × Int) : ByteArray × Int × Int := (x.1, if x.2.2 = 0 then f + x.2.1 else x.2.1, x.2.2)

section
variable {s : ByteArray} {f e : Nat}
theorem size_upto (he : e ≤ s.size) : (s.extract 0 e).size = e := by rw [ByteArray.size_extract]; omega
theorem size_part (he : e ≤ s.size) : (s.extract f e).size = e - f := by rw [ByteArray.size_extract]; omega
theorem byte_part (_he : e ≤ s.size) (j : Nat) (h1 : f + j < (s.extract 0 e).size) (h2 : j < (s.extract f e).size) : (s.extract 0 e)[f + j]'h1 = (s.extract f e)[j]'h2 := by
  rw [ByteArray.getElem_extract, ByteArray.getElem_extract]
  congr 1
  omega

theorem getG_part (hf : f ≤ e) (he : e ≤ s.size) (p : Nat) : ∀ (u i : Nat) (n : Int), VP.getG (s.extract 0 e) (f + p) u i n = sh f (VP.getG (s.extract f e) p u i n)
  | 0, i, n => rfl
  | u + 1, i, n => by
    have z1 := size_upto (s := s) he
    have z2 := size_part (f := f) (s := s) he
    unfold VP.getG
    by_cases h : p + i < (s.extract f e).size
    · have h' : f + p + i < (s.extract 0 e).size := by omega
      have hb : (s.extract 0 e)[f + p + i]'h' = (s.extract f e)[p + i]'h := by
        have := byte_part (f := f) he (p + i) (by omega) h
        rw [← this]
        congr 1
        omega
      rw [dif_pos h, dif_pos h', hb]
      by_cases hlt : (((s.extract f e)[p + i]'h).toNat : Int) < 128
      · rw [if_pos hlt, if_pos hlt]
        by_cases hz : VP.sz (n + ((s.extract f e)[p + i]'h).toNat * 128 ^ i) = i + 1
        · rw [if_pos hz, if_pos hz]
          simp only [sh, if_true]
          refine Prod.ext rfl (Prod.ext ?_ rfl)
          simp only
          omega
        · rw [if_neg hz, if_neg hz]; rfl
      · rw [if_neg hlt, if_neg hlt]; exact getG_part hf he p u (i + 1) _
    · rw [dif_neg h, dif_neg (by omega)]; rfl
theorem get_part (hf : f ≤ e) (he : e ≤ s.size) (p : Nat) (hp : p ≤ e - f) : VP.get (s.extract 0 e) ((f + p : Nat) : Int) = sh f (VP.get (s.extract f e) (p : Int)) := by
  rw [VP.get_in _ _ (by rw [size_upto he]; omega), VP.get_in _ _ (by rw [size_part he]; omega)]
  exact getG_part hf he p 4 0 0
theorem rd_part (hf : f ≤ e) (he : e ≤ s.size) (p : Nat) (hp : p ≤ e - f) (w : Int) : VP.rd (s.extract 0 e) ((f + p : Nat) : Int) w = sh f (VP.rd (s.extract f e) (p : Int) w) := by
  have z1 := size_upto (s := s) he
  have z2 := size_part (f := f) (s := s) he
  by_cases hw : VP.isW w
  · rcases hw with rfl | rfl | rfl
    · by_cases h : p < (s.extract f e).size
      · rw [VP.rd_1 _ p h, VP.rd_1 _ (f + p) (by omega), byte_part he p (by omega) h]
        simp only [sh, if_true]
        refine Prod.ext rfl (Prod.ext ?_ rfl)
        simp only; omega
      · rw [VP.rd_1few _ p (by omega) h, VP.rd_1few _ (f + p) (by omega) (by omega)]; rfl
    · by_cases h : p + 1 < (s.extract f e).size
      · rw [VP.rd_2 _ p h, VP.rd_2 _ (f + p) (by omega)]
        have b0 := byte_part (f := f) he p (by omega) (by omega)
        have b1 := byte_part (f := f) he (p + 1) (by omega) (by omega)
        simp only [← Nat.add_assoc] at b1
        rw [b0, b1]
        simp only [sh, if_true]
        refine Prod.ext rfl (Prod.ext ?_ rfl)
        simp only; omega
      · rw [VP.rd_2few _ p (by omega) h, VP.rd_2few _ (f + p) (by omega) (by omega)]; rfl
    · by_cases h : p + 3 < (s.extract f e).size
      · rw [VP.rd_4 _ p h, VP.rd_4 _ (f + p) (by omega)]
        have b0 := byte_part (f := f) he p (by omega) (by omega)
        have b1 := byte_part (f := f) he (p + 1) (by omega) (by omega)
        have b2 := byte_part (f := f) he (p + 2) (by omega) (by omega)
        have b3 := byte_part (f := f) he (p + 3) (by omega) (by omega)
        simp only [← Nat.add_assoc] at b1 b2 b3
        rw [b0, b1, b2, b3]
        simp only [sh, if_true]
        refine Prod.ext rfl (Prod.ext ?_ rfl)
        simp only; omega
      · rw [VP.rd_4few _ p (by omega) h, VP.rd_4few _ (f + p) (by omega) (by omega)]; rfl
  · rw [VP.rd_no _ _ _ hw, VP.rd_no _ _ _ hw]; rfl
theorem dat_part (hf : f ≤ e) (he : e ≤ s.size) (p : Nat) (hp : p ≤ e - f) : VP.dat (s.extract 0 e) ((f + p : Nat) : Int) = shS f (VP.dat (s.extract f e) (p : Int)) := by
  have z1 := size_upto (s := s) he
  have z2 := size_part (f := f) (s := s) he
  have h := rd_part hf he p hp 2
  by_cases hc : (VP.rd (s.extract f e) (p : Int) 2).2.2 = 0
  · obtain ⟨k, L, hk, hk2, hL, hr⟩ := VP.rd2_ok _ _ hc
    have hkp : k = p := by omega
    subst hkp
    rw [hr] at h
    have h' : VP.rd (s.extract 0 e) ((f + k : Nat) : Int) 2 = ((L : Int), ((f + k : Nat) : Int) + 2, 0) := by
      rw [h]; simp only [sh, if_true]
      refine Prod.ext rfl (Prod.ext ?_ rfl)
      simp only; omega
    by_cases hl : ((s.extract f e).size : Int) - (k + 2) < L
    · rw [VP.dat_few _ k L hr hl, VP.dat_few _ (f + k) L h' (by omega)]; rfl
    · rw [VP.dat_ok _ k L hr hl, VP.dat_ok _ (f + k) L h' (by omega)]
      simp only [shS, if_true]
      refine Prod.ext ?_ (Prod.ext ?_ rfl)
      · simp only
        rw [ByteArray.extract_extract, ByteArray.extract_extract]
        congr 1 <;> omega
      · simp only; omega
  · have hc' : ¬ (VP.rd (s.extract 0 e) ((f + p : Nat) : Int) 2).2.2 = 0 := by rw [h]; exact hc
    rw [VP.dat_bad _ _ hc, VP.dat_bad _ _ hc', h]
    simp only [shS, sh, if_neg hc]
theorem getT_part (hf : f ≤ e) (he : e ≤ s.size) (p : Nat) (hp : p ≤ e - f) : TX.getT (s.extract 0 e) ((f + p : Nat) : Int) = shS f (TX.getT (s.extract f e) (p : Int)) := by
  have h := dat_part hf he p hp
  unfold TX.getT
  generalize VP.dat (s.extract 0 e) ((f + p : Nat) : Int) = d1 at *
  generalize VP.dat (s.extract f e) (p : Int) = d at *
  subst h
  obtain ⟨x, tp, c⟩ := d
  by_cases hc : c = 0
  · subst hc
    by_cases hb : TX.bad x = true <;> simp [shS, hb]
  · simp [shS, hc]
end

/-! What was found lies within. -/
theorem getG_ok (U : ByteArray) (p : Nat) : ∀ (u i : Nat) (n : Int), (VP.getG U p u i n).2.2 = 0 → ∃ q : Nat, (VP.getG U p u i n).2.1 = q ∧ p < q ∧ q ≤ U.size
  | 0, i, n, h => by rw [VP.getG_0] at h; exact absurd h (by decide)
  | u + 1, i, n, h => by
    unfold VP.getG at h ⊢
    by_cases hs : p + i < U.size
    · rw [dif_pos hs] at h ⊢
      by_cases hlt : ((U[p + i]'hs).toNat : Int) < 128
      · rw [if_pos hlt] at h ⊢
        by_cases hz : VP.sz (n + (U[p + i]'hs).toNat * 128 ^ i) = i + 1
        · rw [if_pos hz] at h ⊢
          exact ⟨p + i + 1, by simp only; omega, by omega, by omega⟩
        · rw [if_neg hz] at h; exact absurd h (by decide)
      · rw [if_neg hlt] at h ⊢
        exact getG_ok U p u (i + 1) _ h
    · rw [dif_neg hs] at h; exact absurd h (by decide)
theorem get_ok (U : ByteArray) (p : Nat) (h : (VP.get U p).2.2 = 0) : ∃ q : Nat, (VP.get U p).2.1 = q ∧ p < q ∧ q ≤ U.size := by
  by_cases hp : p ≤ U.size
  · rw [VP.get_in _ _ hp] at h ⊢; exact getG_ok U p 4 0 0 h
  · rw [VP.get_out _ _ (.inr (by omega))] at h; exact absurd h (by decide)
theorem rd_ok (U : ByteArray) (p : Nat) (w : Int) (h : (VP.rd U p w).2.2 = 0) : ∃ q : Nat, (VP.rd U p w).2.1 = q ∧ p ≤ q ∧ q ≤ U.size := by
  by_cases hp : p ≤ U.size
  · by_cases hw : VP.isW w
    · rcases hw with rfl | rfl | rfl
      · by_cases hs : p < U.size
        · rw [VP.rd_1 _ p hs]; exact ⟨p + 1, by simp, by omega, by omega⟩
        · rw [VP.rd_1few _ p hp hs] at h; exact absurd h (by decide)
      · by_cases hs : p + 1 < U.size
        · rw [VP.rd_2 _ p hs]; exact ⟨p + 2, by simp, by omega, by omega⟩
        · rw [VP.rd_2few _ p hp hs] at h; exact absurd h (by decide)
      · by_cases hs : p + 3 < U.size
        · rw [VP.rd_4 _ p hs]; exact ⟨p + 4, by simp, by omega, by omega⟩
        · rw [VP.rd_4few _ p hp hs] at h; exact absurd h (by decide)
    · rw [VP.rd_no _ _ _ hw] at h; exact absurd h (by decide)
  · rw [VP.rd_out _ _ _ (.inr (by omega))] at h; exact absurd h (by decide)
theorem dat_ok (U : ByteArray) (p : Nat) (h : (VP.dat U p).2.2 = 0) : ∃ q : Nat, (VP.dat U p).2.1 = q ∧ p ≤ q ∧ q ≤ U.size := by
  by_cases hc : (VP.rd U p 2).2.2 = 0
  · obtain ⟨k, L, hk, hk2, hL, hr⟩ := VP.rd2_ok _ _ hc
    have hkp : k = p := by omega
    subst hkp
    by_cases hl : (U.size : Int) - (k + 2) < L
    · rw [VP.dat_few _ k L hr hl] at h; exact absurd h (by decide)
    · rw [VP.dat_ok _ k L hr hl]; exact ⟨k + 2 + L, by simp, by omega, by omega⟩
  · rw [VP.dat_bad _ _ hc] at h; exact absurd h hc
theorem getT_ok (U : ByteArray) (p : Nat) (h : (TX.getT U p).2.2 = 0) : ∃ q : Nat, (TX.getT U p).2.1 = q ∧ p ≤ q ∧ q ≤ U.size := by
  have h1 := dat_ok U p
  unfold TX.getT at h ⊢
  by_cases hc : (VP.dat U p).2.2 = 0
  · rw [if_neg (by simp [hc])] at h ⊢
    by_cases hb : TX.bad (VP.dat U p).1 = true
    · rw [if_pos hb] at h; exact absurd h (by decide)
    · rw [if_neg hb]; exact h1 hc
  · rw [if_pos hc] at h; exact absurd h hc

/-! A property's value, a property, all of them. -/
def zp : Pr := ⟨0, 0, ⟨#[]⟩, ⟨#[]⟩⟩
def rdv (T : ByteArray) (p : Int) (id : Int) : Pr × Int × Int :=
  if kd id = 4 then (⟨id, (VP.get T p).1, ⟨#[]⟩, ⟨#[]⟩⟩, (VP.get T p).2.1, (VP.get T p).2.2)
  else if kd id = 5 then (⟨id, 0, (VP.dat T p).1, ⟨#[]⟩⟩, (VP.dat T p).2.1, (VP.dat T p).2.2)
  else if kd id = 6 then (⟨id, 0, (TX.getT T p).1, ⟨#[]⟩⟩, (TX.getT T p).2.1, (TX.getT T p).2.2)
  else if kd id = 7 then (if (TX.getT T p).2.2 ≠ 0 then (⟨id, 0, ⟨#[]⟩, ⟨#[]⟩⟩, 0, (TX.getT T p).2.2) else (⟨id, 0, (TX.getT T p).1, (TX.getT T (TX.getT T p).2.1).1⟩, (TX.getT T (TX.getT T p).2.1).2.1, (TX.getT T (TX.getT T p).2.1).2.2))
  else (⟨id, (VP.rd T p (wd (kd id))).1, ⟨#[]⟩, ⟨#[]⟩⟩, (VP.rd T p (wd (kd id))).2.1, (VP.rd T p (wd (kd id))).2.2)
def g1 (T : ByteArray) (p : Int) (out : List Pr) : Pr × Int × Int :=
  if 64 ≤ out.length then (zp, 0, 149) else if (VP.get T p).2.2 ≠ 0 then (zp, 0, 129) else if idC out (VP.get T p).1 ≠ 0 then (zp, 0, idC out (VP.get T p).1)
  else if (rdv T (VP.get T p).2.1 (VP.get T p).1).2.2 ≠ 0 then (zp, 0, 129) else rdv T (VP.get T p).2.1 (VP.get T p).1
def gl (U : ByteArray) : Nat → Int → List Pr → List Pr × Int
  | 0, _, _ => ([], 149)
  | u + 1, p, out => if ¬ p < (U.size : Int) then (out, 0) else if (g1 U p out).2.2 ≠ 0 then ([], (g1 U p out).2.2) else gl U u (g1 U p out).2.1 (out ++ [(g1 U p out).1])
/-- What Get answers: the properties, the place behind, the code. -/
def getL (s : ByteArray) (at_ : Int) : List Pr × Int × Int :=
  if (VP.get s at_).2.2 ≠ 0 then ([], 0, (VP.get s at_).2.2) else if (s.size : Int) - (VP.get s at_).2.1 < (VP.get s at_).1 then ([], 0, 242)
  else if (gl (s.extract (VP.get s at_).2.1.toNat ((VP.get s at_).2.1 + (VP.get s at_).1).toNat) 66 0 []).2 ≠ 0 then ([], 0, (gl (s.extract (VP.get s at_).2.1.toNat ((VP.get s at_).2.1 + (VP.get s at_).1).toNat) 66 0 []).2)
  else ((gl (s.extract (VP.get s at_).2.1.toNat ((VP.get s at_).2.1 + (VP.get s at_).1).toNat) 66 0 []).1, (VP.get s at_).2.1 + (VP.get s at_).1, 0)

def shP (f : Int) (x : Pr × Int × Int) : Pr × Int × Int := (x.1, if x.2.2 = 0 then f + x.2.1 else x.2.1, x.2.2)
theorem rdv_ok (U : ByteArray) (p : Nat) (id : Int) (h : (rdv U p id).2.2 = 0) : ∃ q : Nat, (rdv U p id).2.1 = q ∧ p ≤ q ∧ q ≤ U.size := by
  unfold rdv at h ⊢
  split
  · rename_i hk
    rw [if_pos hk] at h
    obtain ⟨q, h1, h2, h3⟩ := get_ok U p h
    exact ⟨q, h1, by omega, h3⟩
  · rename_i hk
    rw [if_neg hk] at h
    split
    · rename_i hk2
      rw [if_pos hk2] at h
      exact dat_ok U p h
    · rename_i hk2
      rw [if_neg hk2] at h
      split
      · rename_i hk3
        rw [if_pos hk3] at h
        exact getT_ok U p h
      · rename_i hk3
        rw [if_neg hk3] at h
        split
        · rename_i hk4
          rw [if_pos hk4] at h
          split
          · rename_i hc
            rw [if_pos hc] at h
            exact absurd h hc
          · rename_i hc
            rw [if_neg hc] at h
            obtain ⟨q, h1, h2, h3⟩ := getT_ok U p (by simpa using hc)
            rw [h1] at h ⊢
            obtain ⟨q', h1', h2', h3'⟩ := getT_ok U q h
            exact ⟨q', h1', by omega, h3'⟩
        · rename_i hk4
          rw [if_neg hk4] at h
          exact rd_ok U p _ h
theorem g1_ok (U : ByteArray) (p : Nat) (out : List Pr) (h : (g1 U p out).2.2 = 0) : ∃ q : Nat, (g1 U p out).2.1 = q ∧ p < q ∧ q ≤ U.size ∧ out.length < 64 := by
  unfold g1 at h ⊢
  split
  · rename_i h1; rw [if_pos h1] at h; exact absurd h (by decide)
  · rename_i h1
    rw [if_neg h1] at h
    split
    · rename_i h2; rw [if_pos h2] at h; exact absurd h (by decide)
    · rename_i h2
      rw [if_neg h2] at h
      split
      · rename_i h3; rw [if_pos h3] at h; exact absurd h h3
      · rename_i h3
        rw [if_neg h3] at h
        split
        · rename_i h4; rw [if_pos h4] at h; exact absurd h (by decide)
        · rename_i h4
          rw [if_neg h4] at h
          obtain ⟨q, g1, g2, g3⟩ := get_ok U p (by simpa using h2)
          rw [g1] at h ⊢
          obtain ⟨q', r1, r2, r3⟩ := rdv_ok U q _ h
          exact ⟨q', r1, by omega, r3, by omega⟩

section
variable {s : ByteArray} {f e : Nat}
theorem rdv_part (hf : f ≤ e) (he : e ≤ s.size) (p : Nat) (hp : p ≤ e - f) (id : Int) : rdv (s.extract 0 e) ((f + p : Nat) : Int) id = shP f (rdv (s.extract f e) (p : Int) id) := by
  have z2 := size_part (f := f) (s := s) he
  have a1 := get_part hf he p hp
  have a2 := dat_part hf he p hp
  have a3 := getT_part hf he p hp
  have a4 := fun w => rd_part hf he p hp w
  unfold rdv
  rw [a1, a2, a3, a4]
  by_cases k4 : kd id = 4
  · simp only [k4, if_true]; rfl
  · by_cases k5 : kd id = 5
    · simp only [k5, show ((5 : Int) = 4) = False by decide, if_true, if_false]; rfl
    · by_cases k6 : kd id = 6
      · simp only [k6, show ((6 : Int) = 4) = False by decide, show ((6 : Int) = 5) = False by decide, if_true, if_false]; rfl
      · by_cases k7 : kd id = 7
        · simp only [k7, show ((7 : Int) = 4) = False by decide, show ((7 : Int) = 5) = False by decide, show ((7 : Int) = 6) = False by decide, if_true, if_false]
          by_cases hc : (TX.getT (s.extract f e) (p : Int)).2.2 = 0
          · obtain ⟨q, h1, h2, h3⟩ := getT_ok _ p hc
            have a5 := getT_part hf he q (by omega)
            have e1 : (shS (f : Int) (TX.getT (s.extract f e) (p : Int))).2.1 = ((f + q : Nat) : Int) := by simp only [shS, if_pos hc, h1]; omega
            have e2 : (shS (f : Int) (TX.getT (s.extract f e) (p : Int))).2.2 = 0 := hc
            rw [e1, e2, h1, a5, hc]
            simp only [ne_eq, not_true_eq_false, if_false]
            rfl
          · have e2 : (shS (f : Int) (TX.getT (s.extract f e) (p : Int))).2.2 = (TX.getT (s.extract f e) (p : Int)).2.2 := rfl
            rw [e2]
            simp only [ne_eq, hc, not_false_eq_true, if_true, shP, if_false]
        · simp only [k4, k5, k6, k7, if_false]; rfl
theorem g1_part (hf : f ≤ e) (he : e ≤ s.size) (p : Nat) (hp : p ≤ e - f) (out : List Pr) : g1 (s.extract 0 e) ((f + p : Nat) : Int) out = shP f (g1 (s.extract f e) (p : Int) out) := by
  have z2 := size_part (f := f) (s := s) he
  have a1 := get_part hf he p hp
  unfold g1
  rw [a1]
  by_cases h1 : 64 ≤ out.length
  · rw [if_pos h1, if_pos h1]; rfl
  · rw [if_neg h1, if_neg h1]
    by_cases h2 : (VP.get (s.extract f e) (p : Int)).2.2 = 0
    · obtain ⟨q, g1, g2, g3⟩ := get_ok _ p h2
      have e1 : (sh (f : Int) (VP.get (s.extract f e) (p : Int))).2.1 = ((f + q : Nat) : Int) := by simp only [sh, if_pos h2, g1]; omega
      have e2 : (sh (f : Int) (VP.get (s.extract f e) (p : Int))).2.2 = 0 := h2
      have e3 : (sh (f : Int) (VP.get (s.extract f e) (p : Int))).1 = (VP.get (s.extract f e) (p : Int)).1 := rfl
      have a5 := rdv_part hf he q (by omega) (VP.get (s.extract f e) (p : Int)).1
      rw [e1, e2, e3, g1, h2, a5]
      generalize rdv (s.extract f e) (q : Int) (VP.get (s.extract f e) (p : Int)).1 = D
      generalize (VP.get (s.extract f e) (p : Int)).1 = id'
      obtain ⟨dp, dt, dc⟩ := D
      by_cases h3 : idC out id' = 0
      · by_cases h4 : dc = 0 <;> simp [shP, h3, h4]
      · simp [shP, h3]
    · have e2 : (sh (f : Int) (VP.get (s.extract f e) (p : Int))).2.2 = (VP.get (s.extract f e) (p : Int)).2.2 := rfl
      rw [e2, if_pos h2, if_pos h2]; rfl
end
end PR
end Go.Proofs.YtlfgndhdifpngaaDoor
namespace Go.Proofs.YtlfgndhdifpngaaDoor
open Go.RowKit

theorem or_join (i : Nat) (n x y : Int) (hx : x % 128 * 2 ^ i = y) (hn0 : 0 ≤ n) (hn : n < 2 ^ i) (hi : y < 2 ^ 62) (hy : n < 2 ^ 62) (h0 : 0 ≤ y) : bits .or .i64 n y = n + y := by
  refine i64_or i y n h0 ?_ hi hn0 hn hy
  rw [← hx]
  exact Int.mul_emod_left _ _

end Go.Proofs.YtlfgndhdifpngaaDoor
namespace Go.Proofs.YtlfgndhdifpngaaDoor
open Go.RowKit

end Go.Proofs.YtlfgndhdifpngaaDoor
namespace Go.Proofs.YtlfgndhdifpngaaDoor
open Go.RowKit

namespace PR
def pairG (T : ByteArray) (p : Int) : ByteArray × ByteArray × Int × Int :=
  if (TX.getT T p).2.2 ≠ 0 then (⟨#[]⟩, ⟨#[]⟩, 0, (TX.getT T p).2.2) else if (TX.getT T (TX.getT T p).2.1).2.2 ≠ 0 then (⟨#[]⟩, ⟨#[]⟩, 0, (TX.getT T (TX.getT T p).2.1).2.2) else ((TX.getT T p).1, (TX.getT T (TX.getT T p).2.1).1, (TX.getT T (TX.getT T p).2.1).2.1, 0)
/-- What getValue answers: nothing beside a code. -/
def val1 (T : ByteArray) (p id : Int) : Pr × Int × Int := if (rdv T p id).2.2 ≠ 0 then (zp, 0, (rdv T p id).2.2) else rdv T p id
end PR

theorem ret4 {a b : ByteArray} {c d : Int} {x : ByteArray × ByteArray × Int × Int} (h : x = (a, b, c, d)) : Ending.returned (.tuple #[.string a, .string b, .int .i64 c, .int .u8 d]) = .returned (.tuple #[.string x.1, .string x.2.1, .int .i64 x.2.2.1, .int .u8 x.2.2.2]) := by rw [h]

def RetP (w : World) (x : Pr × Int × Int) (e : Ending) (w' : World) : Prop :=
  e = .returned (.tuple #[.agg #[.int .i64 x.1.id, .int .i64 x.1.n, .string x.1.s, .string x.1.t], .int .i64 x.2.1, .int .u8 x.2.2]) ∧ Below w.heap.size w w'
theorem RetP.mk {w w' : World} {x : Pr × Int × Int} {a b c d : Int} {s t : ByteArray} (h : x = (⟨a, b, s, t⟩, c, d)) (hb : Below w.heap.size w w') : RetP w x (.returned (.tuple #[.agg #[.int .i64 a, .int .i64 b, .string s, .string t], .int .i64 c, .int .u8 d])) w' := by
  subst h; exact ⟨rfl, hb⟩
theorem val1_bad {T : ByteArray} {p id : Int} {q : Pr} {t c : Int} (h : PR.rdv T p id = (q, t, c)) (hc : c ≠ 0) : PR.val1 T p id = (PR.zp, 0, c) := by unfold PR.val1; rw [h, if_pos hc]
theorem val1_ok {T : ByteArray} {p id : Int} {q : Pr} {t : Int} (h : PR.rdv T p id = (q, t, 0)) : PR.val1 T p id = (q, t, 0) := by unfold PR.val1; rw [h, if_neg (by simp)]

end Go.Proofs.YtlfgndhdifpngaaDoor
namespace Go.Proofs.YtlfgndhdifpngaaDoor
open Go.RowKit

end Go.Proofs.YtlfgndhdifpngaaDoor
namespace Go.Proofs.YtlfgndhdifpngaaDoor
open Go.RowKit

namespace PR
theorem getG_nn (s : ByteArray) (k : Nat) : ∀ (u i : Nat) (n : Int), 0 ≤ n → 0 ≤ (VP.getG s k u i n).1
  | 0, i, n, _ => by rw [VP.getG_0]; exact Int.le_refl 0
  | u + 1, i, n, h => by
    unfold VP.getG
    have hp : ∀ a : Int, 0 ≤ a → 0 ≤ a * 128 ^ i := fun a ha => Int.mul_nonneg ha (Int.pow_nonneg (by decide))
    by_cases hs : k + i < s.size
    · rw [dif_pos hs]
      by_cases hlt : ((s[k + i]'hs).toNat : Int) < 128
      · rw [if_pos hlt]
        split
        · have := hp (s[k + i]'hs).toNat (by omega); simp only; omega
        · exact Int.le_refl 0
      · rw [if_neg hlt]
        have := hp (((s[k + i]'hs).toNat : Int) - 128) (by omega)
        exact getG_nn s k u (i + 1) _ (by omega)
    · rw [dif_neg hs]; exact Int.le_refl 0
theorem get_nn (s : ByteArray) (at_ : Int) : 0 ≤ (VP.get s at_).1 := by
  unfold VP.get
  split
  · exact Int.le_refl 0
  · exact getG_nn s _ 4 0 0 (Int.le_refl 0)
theorem get_at (s : ByteArray) (at_ : Int) (h : (VP.get s at_).2.2 = 0) : ∃ m f : Nat, VP.get s at_ = ((m : Int), (f : Int), 0) ∧ f ≤ s.size := by
  by_cases ho : at_ < 0 ∨ (s.size : Int) < at_
  · rw [VP.get_out s at_ ho] at h; exact absurd h (by decide)
  · obtain ⟨k, rfl⟩ := Int.eq_ofNat_of_zero_le (show 0 ≤ at_ by omega)
    obtain ⟨q, h1, _, h3⟩ := get_ok s k h
    have h0 := get_nn s k
    exact ⟨(VP.get s k).1.toNat, q, Prod.ext (by simp only; omega) (Prod.ext h1 h), h3⟩
theorem gl_end (U : ByteArray) (u : Nat) (p : Int) (out : List Pr) (h : ¬ p < (U.size : Int)) : gl U (u + 1) p out = (out, 0) := by rw [gl, if_pos h]
theorem gl_bad (U : ByteArray) (u : Nat) (p : Int) (out : List Pr) (h : p < (U.size : Int)) {P : Pr} {t c : Int} (hg : g1 U p out = (P, t, c)) (hc : c ≠ 0) : gl U (u + 1) p out = ([], c) := by rw [gl, if_neg (by simpa using h), hg, if_pos hc]
theorem gl_go (U : ByteArray) (u : Nat) (p : Int) (out : List Pr) (h : p < (U.size : Int)) {P : Pr} {t : Int} (hg : g1 U p out = (P, t, 0)) : gl U (u + 1) p out = gl U u t (out ++ [P]) := by rw [gl, if_neg (by simpa using h), hg, if_neg (by simp)]
theorem getL_bad (s : ByteArray) (at_ : Int) (h : (VP.get s at_).2.2 ≠ 0) : getL s at_ = ([], 0, (VP.get s at_).2.2) := by unfold getL; rw [if_pos h]
theorem getL_few (s : ByteArray) (at_ : Int) (m f : Nat) (h : VP.get s at_ = ((m : Int), (f : Int), 0)) (hl : (s.size : Int) - f < m) : getL s at_ = ([], 0, 242) := by unfold getL; rw [h, if_neg (by simp), if_pos hl]
theorem getL_in (s : ByteArray) (at_ : Int) (m f : Nat) (h : VP.get s at_ = ((m : Int), (f : Int), 0)) (hl : ¬ (s.size : Int) - f < m) {x : List Pr × Int} (hx : gl (s.extract f (f + m)) 66 0 [] = x) : getL s at_ = if x.2 ≠ 0 then ([], 0, x.2) else (x.1, (f : Int) + m, 0) := by
  unfold getL
  rw [h, if_neg (by simp), if_neg hl]
  have e1 : ((f : Int)).toNat = f := by omega
  have e2 : ((f : Int) + (m : Int)).toNat = f + m := by omega
  simp only [e1, e2, hx]
end PR

/-- What Get answers. -/
def GetP (k : IntKind) (t : TypeId) (w : World) (x : List Pr × Int × Int) (e : Ending) (w' : World) : Prop :=
  ∃ v, e = .returned (.tuple #[v, .int .i64 x.2.1, .int k x.2.2]) ∧ w'.ownsRow w.heap.size t 4 v x.1.length (flatP x.1) ∧ Below w.heap.size w w'
theorem GetP.mk {k : IntKind} {t : TypeId} {w w' : World} {x : List Pr × Int × Int} {l : List Pr} {v : Value} {a c : Int} (h : x = (l, a, c)) (ho : w'.ownsRow w.heap.size t 4 v l.length (flatP l)) (hb : Below w.heap.size w w') : GetP k t w x (.returned (.tuple #[v, .int .i64 a, .int k c])) w' := by
  subst h; exact ⟨v, rfl, ho, hb⟩
def slLen : Value → Nat | .slice _ n _ => n | _ => 0
theorem prInfo : (Tryd.prog.info? 81).map (fun i => (i.zero, i.size, i.bytes)) = some (some (.agg #[.int .i64 0, .int .i64 0, .string ⟨#[]⟩, .string ⟨#[]⟩]), 4, 48) := by kernel_rfl
theorem str_upto (s : ByteArray) (f m : Nat) (h : f + m ≤ s.size) (w : World) :
    (Instr.slice 9 (.string s) none (some (.int .i64 ((f : Int) + (m : Int)))) none).run Tryd.prog w = .ok (.string (s.extract 0 (f + m))) w := by
  rw [run_slice_string_to_if w 9 s .i64 _ Tryd.underlying9, if_pos (by omega)]
  rw [show ((f : Int) + (m : Int)).toNat = f + m by omega]

/-- The relation of Get's loop. -/
def GetRel (w : World) (U : ByteArray) (f : Nat) (out : List Pr) (p : Nat) (lv : Value) (t : TypeId) (wr : World) : Prop :=
  PR.gl U (66 - out.length) p out = PR.gl U 66 0 [] ∧ wr.ownsRow w.heap.size t 4 lv out.length (flatP out) ∧ Below w.heap.size w wr ∧ f = f

end Go.Proofs.YtlfgndhdifpngaaDoor
namespace Go.Proofs.YtlfgndhdifpngaaDoor
open Go.RowKit

namespace PR
theorem vgetG_code (s : ByteArray) (k : Nat) : ∀ (f i : Nat) (n : Int), 0 ≤ (VP.getG s k f i n).2.2 ∧ (VP.getG s k f i n).2.2 ≤ 242
  | 0, _, _ => by rw [VP.getG_0]; exact ⟨by decide, by decide⟩
  | f + 1, i, n => by
    unfold VP.getG
    split
    · split
      · split
        · exact ⟨Int.le_refl 0, (by decide : (0 : Int) ≤ 242)⟩
        · exact ⟨by decide, by decide⟩
      · exact vgetG_code s k f (i + 1) _
    · exact ⟨by decide, by decide⟩
theorem vget_code (s : ByteArray) (at_ : Int) : 0 ≤ (VP.get s at_).2.2 ∧ (VP.get s at_).2.2 ≤ 242 := by
  unfold VP.get
  split
  · exact ⟨by decide, by decide⟩
  · exact vgetG_code _ _ _ _ _
theorem g1_code (T : ByteArray) (p : Int) (out : List Pr) : 0 ≤ (g1 T p out).2.2 ∧ (g1 T p out).2.2 ≤ 149 := by
  unfold g1
  have := idC_le out (VP.get T p).1
  split
  · simp
  · split
    · simp
    · split
      · simpa using this
      · split
        · simp
        · rename_i h
          have h0 : (rdv T (VP.get T p).2.1 (VP.get T p).1).2.2 = 0 := by simpa using h
          omega
theorem gl_facts (U : ByteArray) : ∀ (u : Nat) (p : Int) (out : List Pr), 0 ≤ (gl U u p out).2 ∧ (gl U u p out).2 ≤ 149 ∧ (gl U u p out).1.length ≤ out.length + u
  | 0, p, out => by unfold gl; simp
  | u + 1, p, out => by
    unfold gl
    split
    · simp
    · split
      · have := g1_code U p out
        simp; omega
      · have := gl_facts U u (g1 U p out).2.1 (out ++ [(g1 U p out).1])
        rw [List.length_append, List.length_singleton] at this
        omega
theorem getL_facts (s : ByteArray) (at_ : Int) : 0 ≤ (getL s at_).2.2 ∧ (getL s at_).2.2 ≤ 255 ∧ (getL s at_).1.length ≤ 66 := by
  unfold getL
  have hc := vget_code s at_
  have hg := gl_facts (s.extract (VP.get s at_).2.1.toNat ((VP.get s at_).2.1 + (VP.get s at_).1).toNat) 66 0 []
  split
  · simp; omega
  · split
    · simp
    · split
      · simp; omega
      · simp at hg ⊢; omega
theorem get_one : getL ⟨#[3, 33, 0, 20]⟩ 0 = ([⟨33, 20, ⟨#[]⟩, ⟨#[]⟩⟩], 4, 0) := by kernel_rfl
end PR
end Go.Proofs.YtlfgndhdifpngaaDoor
namespace Go.Proofs.YtlfgndhdifpngaaDoor
open Go.RowKit
attribute [local go_sem ↓] Go.wp_at_zero Go.wp_at_succ

namespace PK
/-- A code behind another one, if there was none. -/
def thn (c d : Int) : Int := if c ≠ 0 then c else d
def rdId (s : ByteArray) (a : Int) : Int × Int × Int := ((VP.rd s a 2).1, (VP.rd s a 2).2.1, thn (cm (VP.rd s a 2).2.2) (if (VP.rd s a 2).1 = 0 then 130 else 0))
def rdSes (s : ByteArray) (a : Int) : Bool × Int × Int := (((VP.rd s a 1).1 == 1), (VP.rd s a 1).2.1, thn (cm (VP.rd s a 1).2.2) (if 1 < (VP.rd s a 1).1 then 129 else 0))
def rdPr (s : ByteArray) (a : Int) (k : Int) : List Pr × Int × Int := ((PR.getL s a).1, (PR.getL s a).2.1, thn (cm (PR.getL s a).2.2) (if alAll k (PR.getL s a).1 = true then 0 else 130))
theorem thn_bad {c : Int} (h : c ≠ 0) (d : Int) : thn c d = c := by unfold thn; rw [if_pos h]
theorem thn_ok {c : Int} (h : c = 0) (d : Int) : thn c d = d := by unfold thn; rw [if_neg (by simp [h])]
theorem rd_nn (s : ByteArray) (a : Int) (wd : Int) : 0 ≤ (VP.rd s a wd).1 ∧ (VP.rd s a wd).1 ≤ 4294967295 := by
  unfold VP.rd
  split
  · simp
  · split
    · split
      · have := (s[a.toNat]'(by assumption)).toNat_lt; simp only; omega
      · simp
    · split
      · split
        · rename_i h
          have := (s[a.toNat]'(by omega)).toNat_lt; have := (s[a.toNat + 1]'h).toNat_lt; simp only; omega
        · simp
      · split
        · split
          · rename_i h
            have := (s[a.toNat]'(by omega)).toNat_lt; have := (s[a.toNat + 1]'(by omega)).toNat_lt; have := (s[a.toNat + 2]'(by omega)).toNat_lt; have := (s[a.toNat + 3]'h).toNat_lt; simp only; omega
          · simp
        · simp
theorem rd_1le (s : ByteArray) (a : Int) : (VP.rd s a 1).1 ≤ 255 := by
  unfold VP.rd
  split
  · simp
  · rw [if_pos rfl]
    split
    · have := (s[a.toNat]'(by assumption)).toNat_lt; simp only; omega
    · simp
end PK

end Go.Proofs.YtlfgndhdifpngaaDoor
namespace Go.Proofs.YtlfgndhdifpngaaDoor
open Go.RowKit
attribute [local go_sem ↓] Go.wp_at_zero Go.wp_at_succ

theorem own_gr {r B : Nat} {e : TypeId} {k : Nat} {v : Value} {n : Nat} {xs : List Value} {w w' : World} (h : w.ownsRow B e k v n xs) (hg : Gr r w w') (hne : v.ownBlock ≠ some r) : w'.ownsRow B e k v n xs := h.kept hg (.inr hne)
theorem row_ne {r B : Nat} {e : TypeId} {k : Nat} {v : Value} {n : Nat} {xs : List Value} {w : World} (h : w.ownsRow B e k v n xs) (hr : r < B) : v.ownBlock ≠ some r := fun hv => by
  have := (h.lt r hv).1; omega
theorem own_base' {w : World} {B C : Nat} {e : TypeId} {k : Nat} {v : Value} {n : Nat} {xs : List Value} (h : w.ownsRow B e k v n xs) (hC : C ≤ B) : w.ownsRow C e k v n xs := by
  refine ⟨h.1, ?_⟩
  rcases h.2 with hn | ⟨g, cap, cur, hv, hb, rest⟩
  · exact .inl hn
  · exact .inr ⟨g, cap, cur, hv, by omega, rest⟩

end Go.Proofs.YtlfgndhdifpngaaDoor
namespace Go.Proofs.YtlfgndhdifpngaaDoor
open Go.RowKit
attribute [local go_sem ↓] Go.wp_at_zero Go.wp_at_succ

namespace PK
/-- The options that a byte tells. -/
def subOf (f : ByteArray) (n : Int) : Sb := ⟨f, bits .and .i64 n 3, bits .and .i64 n 4 != 0, bits .and .i64 n 8 != 0, bits .and .i64 (n / 16) 3⟩
def subC (n : Int) : Int := if isQ (bits .and .i64 n 3) = false then 129 else if (bits .and .i64 n 192 != 0) = true then 129 else if isQ (bits .and .i64 (n / 16) 3) = false then 130 else 0
def rdSub (s : ByteArray) (a : Int) : Sb × Int × Int :=
  (subOf (TX.getT s a).1 (VP.rd s (TX.getT s a).2.1 1).1, (VP.rd s (TX.getT s a).2.1 1).2.1, thn (cm (TX.getT s a).2.2) (thn (cm (VP.rd s (TX.getT s a).2.1 1).2.2) (subC (VP.rd s (TX.getT s a).2.1 1).1)))
end PK
theorem Gr.setNew {r n : Nat} {w w' : World} (h : Gr r w w') (hn : w.heap.size ≤ n) (j : Nat) (u : Value) : Gr r w (w'.setCell ⟨n, j, none⟩ u) :=
  ⟨h.os, h.tape, h.output, by simp [World.setCell]; exact h.size, fun i hi hne => (Below.heap_setCell _ _ _ _ (fun e => by simp at e; omega)).trans (h.block i hi hne)⟩
theorem Gr.alloc {r : Nat} {w w' : World} (h : Gr r w w') (o : Obj) : Gr r w (w'.alloc o) := h.trans (Gr.of_below ((Below.refl _ _).alloc (Nat.le_refl _) o))
theorem Gr.kept {r n : Nat} {w w' : World} {o : Obj} (h : Gr r w w') (hn : n ≠ r) (hb : w.heap[n]? = some o) : w'.heap[n]? = some o := (h.block n (lt_heap hb) (fun e => hn (by injection e))).trans hb

end Go.Proofs.YtlfgndhdifpngaaDoor
namespace Go.Proofs.YtlfgndhdifpngaaDoor
open Go.RowKit

namespace PK
/-- All that is left, one by one: at least one and at most 64. -/
def lst {α : Type} (rd : Int → α × Int × Int) (sz : Nat) : Nat → Int → List α → List α × Int × Int
  | 0, _, _ => ([], 0, 149)
  | u + 1, a, out => if a = (sz : Int) then (if out = [] then ([], 0, 130) else (out, a, 0)) else if out.length = 64 then ([], 0, 149) else if (rd a).2.2 ≠ 0 then ([], 0, (rd a).2.2) else lst rd sz u (rd a).2.1 (out ++ [(rd a).1])
def rdT (s : ByteArray) (a : Int) : ByteArray × Int × Int := ((TX.getT s a).1, (TX.getT s a).2.1, cm (TX.getT s a).2.2)
def rdC (s : ByteArray) (a : Int) : Int × Int × Int := ((VP.rd s a 1).1, (VP.rd s a 1).2.1, cm (VP.rd s a 1).2.2)
end PK
def flatT (l : List ByteArray) : List Value := l.map Value.string
def flatC (l : List Int) : List Value := l.map (Value.int .u8)
theorem flatT_snoc (l : List ByteArray) (x : ByteArray) : flatT (l ++ [x]) = flatT l ++ [.string x] := by simp [flatT]
theorem flatC_snoc (l : List Int) (x : Int) : flatC (l ++ [x]) = flatC l ++ [.int .u8 x] := by simp [flatC]
def Sb.cells (s : Sb) : List Value := [.string s.f, .int .i64 s.q, .bool s.nl, .bool s.ap, .int .i64 s.h]
def flatB (l : List Sb) : List Value := l.flatMap Sb.cells
theorem flatB_snoc (l : List Sb) (x : Sb) : flatB (l ++ [x]) = flatB l ++ [.string x.f, .int .i64 x.q, .bool x.nl, .bool x.ap, .int .i64 x.h] := by simp [flatB, Sb.cells]
theorem cInfo : (Tryd.prog.info? 31).map (fun i => (i.zero, i.size, i.bytes)) = some (some (.int .u8 0), 1, 1) := by kernel_rfl
theorem sbInfo : (Tryd.prog.info? 58).map (fun i => (i.zero, i.size, i.bytes)) = some (some (.agg #[.string ⟨#[]⟩, .int .i64 0, .bool false, .bool false, .int .i64 0]), 5, 40) := by kernel_rfl
theorem tInfo : (Tryd.prog.info? 9).map (fun i => (i.zero, i.size, i.bytes)) = some (some (.string ⟨#[]⟩), 1, 16) := by kernel_rfl

end Go.Proofs.YtlfgndhdifpngaaDoor
namespace Go.Proofs.YtlfgndhdifpngaaDoor
open Go.RowKit

/-- All but the reader's block and the packet's stands. -/
structure G2 (r p : Nat) (w w' : World) : Prop where
  os : w'.os = w.os
  tape : w'.tape = w.tape
  output : w'.output = w.output
  size : w.heap.size ≤ w'.heap.size
  block : ∀ i, i < w.heap.size → i ≠ r → i ≠ p → w'.heap[i]? = w.heap[i]?
theorem G2.refl (r p : Nat) (w : World) : G2 r p w w := ⟨rfl, rfl, rfl, Nat.le_refl _, fun _ _ _ _ => rfl⟩
theorem G2.trans {r p : Nat} {w1 w2 w3 : World} (h : G2 r p w1 w2) (k : G2 r p w2 w3) : G2 r p w1 w3 :=
  ⟨k.os.trans h.os, k.tape.trans h.tape, k.output.trans h.output, Nat.le_trans h.size k.size, fun i hi h1 h2 => (k.block i (Nat.lt_of_lt_of_le hi h.size) h1 h2).trans (h.block i hi h1 h2)⟩
theorem G2.of_gr {r p : Nat} {w w' : World} (h : Gr r w w') : G2 r p w w' := ⟨h.os, h.tape, h.output, h.size, fun i hi h1 _ => h.block i hi (fun e => h1 (by injection e))⟩
theorem G2.setCell {r p : Nat} {w w' : World} (h : G2 r p w w') (j : Nat) (u : Value) : G2 r p w (w'.setCell ⟨p, j, none⟩ u) :=
  ⟨h.os, h.tape, h.output, by simp [World.setCell]; exact h.size, fun i hi h1 h2 => (Below.heap_setCell _ _ _ _ (fun e => h2 (by simpa using e))).trans (h.block i hi h1 h2)⟩
/-- The packet that is read, in block p. -/
def PbAt (p : Nat) (P : Pk) (vc vp vw vs vf : Value) (w : World) : Prop := w.heap[p]? = some (.cells (pkCells P vc vp vw vs vf) 38 (0, 0))
theorem PbAt.gr {r p : Nat} {P : Pk} {vc vp vw vs vf : Value} {w w' : World} (h : PbAt p P vc vp vw vs vf w) (hg : Gr r w w') (hne : p ≠ r) : PbAt p P vc vp vw vs vf w' := hg.kept hne h
namespace PK
/-- An identifier and properties. -/
def rdHd (s : ByteArray) (a k : Int) : (Int × List Pr) × Int × Int := (((rdId s a).1, (rdPr s (rdId s a).2.1 k).1), (rdPr s (rdId s a).2.1 k).2.1, thn (rdId s a).2.2 (rdPr s (rdId s a).2.1 k).2.2)
end PK
end Go.Proofs.YtlfgndhdifpngaaDoor
namespace Go.Proofs.YtlfgndhdifpngaaDoor
open Go.RowKit

namespace PK
/-- A code and properties, as far as they stand there. -/
def rdEnd (s : ByteArray) (a k : Int) : (Int × List Pr) × Int × Int :=
  if a = (s.size : Int) then ((0, []), a, 0)
  else if (rdC s a).2.2 ≠ 0 then ((0, []), 0, (rdC s a).2.2)
  else if (rdC s a).2.1 = (s.size : Int) then (((rdC s a).1, []), (rdC s a).2.1, 0)
  else (((rdC s a).1, (rdPr s (rdC s a).2.1 k).1), (rdPr s (rdC s a).2.1 k).2.1, (rdPr s (rdC s a).2.1 k).2.2)
end PK
end Go.Proofs.YtlfgndhdifpngaaDoor
namespace Go.Proofs.YtlfgndhdifpngaaDoor
open Go.RowKit

theorem G2.setR {r p : Nat} {w w' : World} (h : G2 r p w w') (j : Nat) (u : Value) : G2 r p w (w'.setCell ⟨r, j, none⟩ u) :=
  ⟨h.os, h.tape, h.output, by simp [World.setCell]; exact h.size, fun i hi h1 h2 => (Below.heap_setCell _ _ _ _ (fun e => h1 (by simpa using e))).trans (h.block i hi h1 h2)⟩
namespace PK
/-- The identifier, where there is one. -/
def rdI (s : ByteArray) (a q i : Int) : Int × Int × Int := if 0 < q then rdId s a else (i, a, 0)
/-- A topic, an identifier where there is one, properties, and all that is left. -/
def rdPub (s : ByteArray) (a k q i : Int) : (ByteArray × Int × List Pr × ByteArray) × Int × Int :=
  (((rdT s a).1, (rdI s (rdT s a).2.1 q i).1, (rdPr s (rdI s (rdT s a).2.1 q i).2.1 k).1, s.extract (rdPr s (rdI s (rdT s a).2.1 q i).2.1 k).2.1.toNat s.size), (s.size : Int),
    thn (rdT s a).2.2 (thn (rdI s (rdT s a).2.1 q i).2.2 (rdPr s (rdI s (rdT s a).2.1 q i).2.1 k).2.2))
theorem getL_at (s : ByteArray) (a : Int) (h : (PR.getL s a).2.2 = 0) : ∃ q : Nat, (PR.getL s a).2.1 = q ∧ q ≤ s.size := by
  by_cases h0 : (VP.get s a).2.2 = 0
  · obtain ⟨m, f, hg, hf⟩ := PR.get_at s a h0
    by_cases hl : (s.size : Int) - f < m
    · rw [PR.getL_few s a m f hg hl] at h; exact absurd h (by simp)
    · have hx := PR.getL_in s a m f hg hl rfl
      by_cases hz : (PR.gl (s.extract f (f + m)) 66 0 []).2 ≠ 0
      · rw [if_pos hz] at hx; rw [hx] at h; exact absurd h hz
      · rw [if_neg hz] at hx; rw [hx]; exact ⟨f + m, by simp, by omega⟩
  · rw [PR.getL_bad s a h0] at h; exact absurd h h0
theorem cm_zero {c : Int} (h : cm c = 0) : c = 0 := by
  unfold cm at h
  split at h
  · exact absurd h (by decide)
  · exact h
theorem rdPr_at (s : ByteArray) (a k : Int) (h : (rdPr s a k).2.2 = 0) : ∃ q : Nat, (rdPr s a k).2.1 = q ∧ q ≤ s.size := by
  have hc : cm (PR.getL s a).2.2 = 0 := by
    by_cases hz : cm (PR.getL s a).2.2 = 0
    · exact hz
    · exfalso
      have : (rdPr s a k).2.2 = cm (PR.getL s a).2.2 := thn_bad hz _
      exact hz (this.symm.trans h)
  exact getL_at s a (cm_zero hc)
end PK
end Go.Proofs.YtlfgndhdifpngaaDoor
namespace Go.Proofs.YtlfgndhdifpngaaDoor
open Go.RowKit
attribute [local go_sem ↓] Go.wp_at_zero Go.wp_at_succ

namespace PK
/-- What a Connect's flags tell. -/
def cflPk (P : Pk) (n : Int) : Pk := { P with clean := bits .and .i64 n 2 != 0, hasWill := bits .and .i64 n 4 != 0, wqos := bits .and .i64 (n / 8) 3, wret := bits .and .i64 n 32 != 0, hasPass := bits .and .i64 n 64 != 0, hasUser := bits .and .i64 n 128 != 0 }
def cflC (n : Int) : Int :=
  if (bits .and .i64 n 1 != 0) = true then 129 else if isQ (bits .and .i64 (n / 8) 3) = false then 129
  else if ((bits .and .i64 (n / 8) 3 != 0) || (bits .and .i64 n 32 != 0)) = true ∧ (bits .and .i64 n 4 != 0) = false then 129 else 0
def rdFl (s : ByteArray) (a : Int) : Int × Int × Int := ((VP.rd s a 1).1, (VP.rd s a 1).2.1, thn (cm (VP.rd s a 1).2.2) (cflC (VP.rd s a 1).1))
end PK
end Go.Proofs.YtlfgndhdifpngaaDoor
namespace Go.Proofs.YtlfgndhdifpngaaDoor
open Go.RowKit
attribute [local go_sem ↓] Go.wp_at_zero Go.wp_at_succ

namespace PK
def rdN (s : ByteArray) (a wd : Int) : Int × Int × Int := ((VP.rd s a wd).1, (VP.rd s a wd).2.1, cm (VP.rd s a wd).2.2)
def rdD (s : ByteArray) (a : Int) : ByteArray × Int × Int := ((VP.dat s a).1, (VP.dat s a).2.1, cm (VP.dat s a).2.2)
/-- One part, and then the others. -/
def bnd {α : Type} (P : Pk) (x : α × Int × Int) (f : α → Int → Pk × Int × Int) : Pk × Int × Int := if x.2.2 ≠ 0 then (P, 0, x.2.2) else f x.1 x.2.1
theorem bnd_ok {α : Type} {P : Pk} {v : α} {a c : Int} {f : α → Int → Pk × Int × Int} (h : c = 0) : bnd P (v, a, c) f = f v a := by unfold bnd; rw [if_neg (by simp [h])]
theorem bnd_bad {α : Type} {P : Pk} {v : α} {a c : Int} {f : α → Int → Pk × Int × Int} (h : c ≠ 0) : bnd P (v, a, c) f = (P, 0, c) := by unfold bnd; rw [if_pos h]
def rdPass (s : ByteArray) (a : Int) (P : Pk) : Pk × Int × Int := if P.hasPass = true then bnd P (rdD s a) (fun v a => ({ P with pass := v }, a, 0)) else (P, a, 0)
def rdUser (s : ByteArray) (a : Int) (P : Pk) : Pk × Int × Int := if P.hasUser = true then bnd P (rdT s a) (fun v a => rdPass s a { P with user := v }) else rdPass s a P
def rdWill (s : ByteArray) (a : Int) (P : Pk) : Pk × Int × Int :=
  if P.hasWill = true then bnd P (rdPr s a 0) (fun l a => bnd P (rdT s a) (fun t a => bnd P (rdD s a) (fun d a => rdUser s a { P with wprops := l, wtopic := t, wpay := d }))) else rdUser s a P
def rdConn1 (s : ByteArray) (a : Int) (P : Pk) : Pk × Int × Int :=
  bnd P (rdN s a 2) (fun k a => bnd P (rdPr s a P.kind) (fun l a => bnd P (rdT s a) (fun c a => rdWill s a { P with keep := k, props := l, client := c })))
/-- A Connect, behind its length. -/
def rdConn (s : ByteArray) (a : Int) (P : Pk) : Pk × Int × Int :=
  bnd P (rdT s a) (fun m a => if m ≠ ⟨#[77, 81, 84, 84]⟩ then (P, 0, 129) else bnd P (rdN s a 1) (fun v a => if v ≠ 5 then (P, 0, 132) else bnd P (rdFl s a) (fun n a => rdConn1 s a (cflPk P n))))
theorem rdPass_t (s : ByteArray) (a : Int) {P : Pk} (h : P.hasPass = true) : rdPass s a P = bnd P (rdD s a) (fun v a => ({ P with pass := v }, a, 0)) := by unfold rdPass; rw [if_pos h]
theorem rdPass_f (s : ByteArray) (a : Int) {P : Pk} (h : P.hasPass = false) : rdPass s a P = (P, a, 0) := by unfold rdPass; rw [if_neg (by rw [h]; decide)]
theorem rdUser_t (s : ByteArray) (a : Int) {P : Pk} (h : P.hasUser = true) : rdUser s a P = bnd P (rdT s a) (fun v a => rdPass s a { P with user := v }) := by unfold rdUser; rw [if_pos h]
theorem rdUser_f (s : ByteArray) (a : Int) {P : Pk} (h : P.hasUser = false) : rdUser s a P = rdPass s a P := by unfold rdUser; rw [if_neg (by rw [h]; decide)]
theorem rdWill_t (s : ByteArray) (a : Int) {P : Pk} (h : P.hasWill = true) : rdWill s a P = bnd P (rdPr s a 0) (fun l a => bnd P (rdT s a) (fun t a => bnd P (rdD s a) (fun d a => rdUser s a { P with wprops := l, wtopic := t, wpay := d }))) := by unfold rdWill; rw [if_pos h]
theorem rdWill_f (s : ByteArray) (a : Int) {P : Pk} (h : P.hasWill = false) : rdWill s a P = rdUser s a P := by unfold rdWill; rw [if_neg (by rw [h]; decide)]
end PK
end Go.Proofs.YtlfgndhdifpngaaDoor
namespace Go.Proofs.YtlfgndhdifpngaaDoor
open Go.RowKit
attribute [local go_sem ↓] Go.wp_at_zero Go.wp_at_succ

namespace PK
def rdEndP (s : ByteArray) (a k : Int) (P : Pk) : Pk × Int × Int := ({ P with code := (rdEnd s a k).1.1, props := (rdEnd s a k).1.2 }, (rdEnd s a k).2.1, (rdEnd s a k).2.2)
/-- What follows the length of a packet of kind k. -/
def partsK (k : Int) (s : ByteArray) (a : Int) (P : Pk) : Pk × Int × Int :=
  if k = 1 then rdConn s a P
  else if k = 2 then bnd P (rdSes s a) (fun v a => bnd P (rdC s a) (fun c a => bnd P (rdPr s a k) (fun l a => ({ P with session := v, code := c, props := l }, a, 0))))
  else if k = 3 then ({ P with topic := (rdPub s a k P.qos P.id).1.1, id := (rdPub s a k P.qos P.id).1.2.1, props := (rdPub s a k P.qos P.id).1.2.2.1, pay := (rdPub s a k P.qos P.id).1.2.2.2 }, (rdPub s a k P.qos P.id).2.1, (rdPub s a k P.qos P.id).2.2)
  else if k = 8 then bnd P (rdHd s a k) (fun h a => bnd P (lst (rdSub s) s.size 66 a []) (fun l a => ({ P with id := h.1, props := h.2, subs := l }, a, 0)))
  else if k = 10 then bnd P (rdHd s a k) (fun h a => bnd P (lst (rdT s) s.size 66 a []) (fun l a => ({ P with id := h.1, props := h.2, filters := l }, a, 0)))
  else if k = 9 ∨ k = 11 then bnd P (rdHd s a k) (fun h a => bnd P (lst (rdC s) s.size 66 a []) (fun l a => ({ P with id := h.1, props := h.2, codes := l }, a, 0)))
  else if k = 4 ∨ k = 5 ∨ k = 6 ∨ k = 7 then bnd P (rdId s a) (fun i a => rdEndP s a k { P with id := i })
  else if k = 14 ∨ k = 15 then rdEndP s a k P
  else (P, a, 0)
end PK
namespace PK
def Same3 (P Q : Pk) : Prop := Q.codes = P.codes ∧ Q.subs = P.subs ∧ Q.filters = P.filters
theorem bnd_keeps {α : Type} {P P0 : Pk} {x : α × Int × Int} {f : α → Int → Pk × Int × Int} (h0 : Same3 P0 P) (h : ∀ v a, Same3 P0 (f v a).1) : Same3 P0 (bnd P x f).1 := by
  unfold bnd; split
  · exact h0
  · exact h _ _
theorem rdPass_keeps {P0 : Pk} (s : ByteArray) (a : Int) (P : Pk) (h : Same3 P0 P) : Same3 P0 (rdPass s a P).1 := by
  unfold rdPass; split
  · exact bnd_keeps h (fun _ _ => h)
  · exact h
theorem rdUser_keeps {P0 : Pk} (s : ByteArray) (a : Int) (P : Pk) (h : Same3 P0 P) : Same3 P0 (rdUser s a P).1 := by
  unfold rdUser; split
  · exact bnd_keeps h (fun _ _ => rdPass_keeps _ _ _ h)
  · exact rdPass_keeps _ _ _ h
theorem rdWill_keeps {P0 : Pk} (s : ByteArray) (a : Int) (P : Pk) (h : Same3 P0 P) : Same3 P0 (rdWill s a P).1 := by
  unfold rdWill; split
  · exact bnd_keeps h (fun _ _ => bnd_keeps h (fun _ _ => bnd_keeps h (fun _ _ => rdUser_keeps _ _ _ h)))
  · exact rdUser_keeps _ _ _ h
theorem rdConn_keeps (s : ByteArray) (a : Int) (P : Pk) : Same3 P (rdConn s a P).1 := by
  have h : Same3 P P := ⟨rfl, rfl, rfl⟩
  have h2 : ∀ n, Same3 P (cflPk P n) := fun _ => ⟨rfl, rfl, rfl⟩
  unfold rdConn
  refine bnd_keeps h (fun _ _ => ?_)
  split
  · exact h
  · refine bnd_keeps h (fun _ _ => ?_)
    split
    · exact h
    · refine bnd_keeps h (fun _ _ => ?_)
      unfold rdConn1
      exact bnd_keeps (h2 _) (fun _ _ => bnd_keeps (h2 _) (fun _ _ => bnd_keeps (h2 _) (fun _ _ => rdWill_keeps _ _ _ ⟨rfl, rfl, rfl⟩)))
end PK
/-- A packet as begin lays it: nothing but what its first byte tells. -/
structure Bare (P : Pk) : Prop where
  code : P.code = 0
  codes : P.codes = []
  props : P.props = []
  wprops : P.wprops = []
  subs : P.subs = []
  filters : P.filters = []
/-- The five rows of a packet that was read. -/
structure Own5 (B : Nat) (P : Pk) (vc vp vw vs vf : Value) (w : World) : Prop where
  codes : w.ownsRow B 31 1 vc P.codes.length (flatC P.codes)
  props : w.ownsRow B 81 4 vp P.props.length (flatP P.props)
  wprops : w.ownsRow B 81 4 vw P.wprops.length (flatP P.wprops)
  subs : w.ownsRow B 58 5 vs P.subs.length (flatB P.subs)
  filters : w.ownsRow B 9 1 vf P.filters.length (flatT P.filters)
end Go.Proofs.YtlfgndhdifpngaaDoor
namespace Go.Proofs.YtlfgndhdifpngaaDoor
open Go.RowKit
attribute [local go_sem ↓] Go.wp_at_zero Go.wp_at_succ

end Go.Proofs.YtlfgndhdifpngaaDoor
namespace Go.Proofs.YtlfgndhdifpngaaDoor
open Go.RowKit
attribute [local go_sem ↓] Go.wp_at_zero Go.wp_at_succ

end Go.Proofs.YtlfgndhdifpngaaDoor
namespace Go.Proofs.YtlfgndhdifpngaaDoor
open Go.RowKit
attribute [local go_sem ↓] Go.wp_at_zero Go.wp_at_succ

namespace PK
def lenC (n m : Int) : Int := if 65536 < n then 149 else if m < n then 242 else if n < m then 129 else 0
end PK
end Go.Proofs.YtlfgndhdifpngaaDoor
namespace Go.Proofs.YtlfgndhdifpngaaDoor
open Go.RowKit
attribute [local go_sem ↓] Go.wp_at_zero Go.wp_at_succ

namespace PK
def rdWhole (s : ByteArray) (a : Int) (P : Pk) : Pk × Int := ((partsK P.kind s a P).1, thn (partsK P.kind s a P).2.2 (if (partsK P.kind s a P).2.1 = (s.size : Int) then 0 else 129))
def zeroPk : Pk := ⟨0, false, false, 0, 0, ⟨#[]⟩, ⟨#[]⟩, 0, [], [], ⟨#[]⟩, false, 0, false, ⟨#[]⟩, ⟨#[]⟩, 0, false, [], false, false, ⟨#[]⟩, ⟨#[]⟩, false, [], []⟩
end PK
/-- The cells of a packet without rows. -/
def pkNil (P : Pk) : Array Value := pkCells P (.slice none 0 0) (.slice none 0 0) (.slice none 0 0) (.slice none 0 0) (.slice none 0 0)
theorem Gr.of_g2 {r p : Nat} {w W W' : World} (h : Gr r w W) (hp : w.heap.size ≤ p) (g : G2 r p W W') : Gr r w W' :=
  ⟨g.os.trans h.os, g.tape.trans h.tape, g.output.trans h.output, Nat.le_trans h.size g.size, fun i hi hne => (g.block i (Nat.lt_of_lt_of_le hi h.size) (fun e => hne (by rw [e])) (by omega)).trans (h.block i hi hne)⟩
theorem setRow_heap {w : World} {g : Nat} {old cs : Array Value} {t : TypeId} (h : w.heap[g]? = some (.cells old t (0, 0))) : (w.setRow g cs).heap[g]? = some (.cells cs t (0, 0)) := by
  simp [World.setRow, Array.getElem?_modify, h]
theorem setRow_other {w : World} {g i : Nat} (cs : Array Value) (h : i ≠ g) : (w.setRow g cs).heap[i]? = w.heap[i]? := by
  simp [World.setRow, Array.getElem?_modify, Ne.symm h]
theorem Gr.setRow {r g : Nat} {w w' : World} (h : Gr r w w') (hg : w.heap.size ≤ g) (cs : Array Value) : Gr r w (w'.setRow g cs) :=
  ⟨h.os, h.tape, h.output, by simp [World.setRow]; exact h.size, fun i hi hne => (setRow_other cs (by omega)).trans (h.block i hi hne)⟩
theorem own_setRow {w : World} {g B : Nat} {e : TypeId} {k : Nat} {v : Value} {n : Nat} {xs : List Value} (cs : Array Value) (h : w.ownsRow B e k v n xs) (hne : v.ownBlock ≠ some g) : (w.setRow g cs).ownsRow B e k v n xs :=
  h.kept (row := some g) ⟨rfl, rfl, rfl, by simp [World.setRow], fun i _ hi => setRow_other cs (fun e => hi (by rw [e]))⟩ (.inr hne)
theorem Own5.below {B C : Nat} {P : Pk} {vc vp vw vs vf : Value} {w w' : World} (h : Own5 C P vc vp vw vs vf w) (hb : Below w.heap.size w w') (hC : B ≤ C) : Own5 B P vc vp vw vs vf w' :=
  ⟨own_base' (own_gr h.codes (Gr.of_below (r := w.heap.size) hb) (fun hv => Nat.lt_irrefl _ (h.codes.lt _ hv).2)) hC, own_base' (own_gr h.props (Gr.of_below (r := w.heap.size) hb) (fun hv => Nat.lt_irrefl _ (h.props.lt _ hv).2)) hC, own_base' (own_gr h.wprops (Gr.of_below (r := w.heap.size) hb) (fun hv => Nat.lt_irrefl _ (h.wprops.lt _ hv).2)) hC, own_base' (own_gr h.subs (Gr.of_below (r := w.heap.size) hb) (fun hv => Nat.lt_irrefl _ (h.subs.lt _ hv).2)) hC, own_base' (own_gr h.filters (Gr.of_below (r := w.heap.size) hb) (fun hv => Nat.lt_irrefl _ (h.filters.lt _ hv).2)) hC⟩
theorem pk_one (P : Pk) {B : Nat} {vc vp vw vs vf : Value} {w : World} (h : Own5 B P vc vp vw vs vf w) : (pkCells P vc vp vw vs vf).all (·.oneCell') = true := by
  obtain ⟨A1, n1, rfl⟩ := own_form h.codes
  obtain ⟨A2, n2, rfl⟩ := own_form h.props
  obtain ⟨A3, n3, rfl⟩ := own_form h.wprops
  obtain ⟨A4, n4, rfl⟩ := own_form h.subs
  obtain ⟨A5, n5, rfl⟩ := own_form h.filters
  simp [pkCells, Value.oneCell']
theorem pk_size (P : Pk) (vc vp vw vs vf : Value) : (pkCells P vc vp vw vs vf).size = 26 := rfl
theorem pk_info : (Tryd.prog.info? 38).map (·.size) = some 26 := by kernel_rfl

end Go.Proofs.YtlfgndhdifpngaaDoor
namespace Go.Proofs.YtlfgndhdifpngaaDoor
open Go.RowKit
attribute [local go_sem ↓] Go.wp_at_zero Go.wp_at_succ

namespace PK
/-- A packet of which nothing is known but its first byte. -/
def barePk (k : Int) (d r : Bool) (q : Int) : Pk := ⟨k, d, r, q, 0, ⟨#[]⟩, ⟨#[]⟩, 0, [], [], ⟨#[]⟩, false, 0, false, ⟨#[]⟩, ⟨#[]⟩, 0, false, [], false, false, ⟨#[]⟩, ⟨#[]⟩, false, [], []⟩
/-- What a first byte tells of a packet. -/
def begPk (n : Int) : Pk := if n / 16 = 3 then barePk 3 (bits .and .i64 (n % 16) 8 != 0) (bits .and .i64 (n % 16) 1 != 0) (bits .and .i64 (n % 16 / 2) 3) else barePk (n / 16) false false 0
def begOk (n : Int) : Bool := if n / 16 = 3 then canPub (begPk n) else isK (n / 16) && (n % 16 == fixN (n / 16))
end PK
theorem pkNil_one (P : Pk) : (pkNil P).all (·.oneCell') = true := by simp [pkNil, pkCells, Value.oneCell']
theorem below_setRow {n g : Nat} {w w' : World} (h : Below n w w') (hg : n ≤ g) (cs : Array Value) : Below n w (w'.setRow g cs) :=
  ⟨h.os, h.tape, h.output, by simp [World.setRow]; exact h.size, fun i hi => (setRow_other cs (by omega)).trans (h.block i hi)⟩
theorem load_pk_var {w : World} {g : Nat} {P : Pk} {vc vp vw vs vf : Value} (h : w.heap[g]? = some (.cells (pkCells P vc vp vw vs vf) 38 (0, 0))) :
    (loadVar 38 ⟨g, 0, none⟩).run Tryd.prog w = .ok (.agg (pkCells P vc vp vw vs vf)) w :=
  run_loadVar_mid _ g 0 38 (pkCells P vc vp vw vs vf).toList _ (fun j v hv => by rw [Nat.zero_add, cell_heap h, ← hv]; simp) Tryd.underlying38 rfl (by kernel_rfl)
theorem read_two {P : Program} {W : World} {g : Nat} {T : TypeId} {x y : Value} (hl : (loadVar T ⟨g, 0, none⟩).run P W = .ok x W) :
    ((Sem.run P (asAddr (.pointer (some ⟨g, 0, none⟩))) W).andThen fun a w' => (Sem.run P (loadVar T a) w').andThen fun a w' => Result.ok (Value.tuple #[a, y]) w') = .ok (Value.tuple #[x, y]) W := by
  show ((Sem.run P (loadVar T ⟨g, 0, none⟩) W).andThen _) = _
  rw [hl]
  rfl
theorem step_load_pk {ops : Array Oper} {o : Oper} {a : Act} {w : World} {K : Act → World → Prop} {Q : Exit → Act → World → Prop} {E : Prop} (hgd : o.guard = none) (x : Operand) (ho : o.op = .load 38 x)
    (n : Nat) (hx : a.eval x = .pointer (some ⟨n, 0, none⟩)) {p : Pk} {vc vp vw vs vf : Value} (hb : w.heap[n]? = some (.cells (pkCells p vc vp vw vs vf) 38 (0, 0)))
    (h : K (a.put o.dst (.agg (pkCells p vc vp vw vs vf))) w) : if Region.wanted o (yielded ops a.tmps) = true then Oper.wp Tryd.prog o a w K Q else E := by
  rw [if_pos (by simp [Region.wanted, hgd])]
  exact wp_load_mid 38 x ho n 0 hx (pkCells p vc vp vw vs vf).toList _ (fun j v hv => by rw [Nat.zero_add, cell_heap hb, ← hv]; simp) Tryd.underlying38 rfl (by kernel_rfl) h
theorem step_store_pk {ops : Array Oper} {o : Oper} {a : Act} {w : World} {K : Act → World → Prop} {Q : Exit → Act → World → Prop} {E : Prop} (hgd : o.guard = none) (x y : Operand) (ho : o.op = .store 38 x y)
    (g : Nat) (cells : Array Value) (hx : a.eval x = .pointer (some ⟨g, 0, none⟩)) (hy : a.eval y = .agg cells)
    {t : TypeId} {old : Array Value} (hg : w.heap[g]? = some (.cells old t (0, 0))) (hi : (Tryd.prog.info? 38).map (·.size) = some cells.size)
    (hold : old.size = cells.size) (h1 : cells.all (·.oneCell') = true)
    (h : K (a.put o.dst undef) (w.setRow g cells)) : if Region.wanted o (yielded ops a.tmps) = true then Oper.wp Tryd.prog o a w K Q else E := by
  rw [if_pos (by simp [Region.wanted, hgd])]
  exact wp_store_row 38 x y ho g cells hx hy t old hg hi hold h1 h
theorem and15 (n : Int) (h0 : 0 ≤ n) (h1 : n ≤ 255) : bits .and .u8 n 15 = n % 16 := by
  obtain ⟨k, rfl⟩ := Int.eq_ofNat_of_zero_le h0
  have h : ∀ k : Fin 256, bits .and .u8 ((k.val : Nat) : Int) 15 = ((k.val : Nat) : Int) % 16 := by decide +kernel
  exact h ⟨k, by omega⟩

end Go.Proofs.YtlfgndhdifpngaaDoor
namespace Go.Proofs.YtlfgndhdifpngaaDoor
open Go.RowKit
attribute [local go_sem ↓] Go.wp_at_zero Go.wp_at_succ

end Go.Proofs.YtlfgndhdifpngaaDoor
namespace Go.Proofs.YtlfgndhdifpngaaDoor
open Go.RowKit
attribute [local go_sem ↓] Go.wp_at_zero Go.wp_at_succ

theorem caught_world {p q : Nat} {cs : Array Value} {x c : Int} {w : World} (hpq : p ≠ q) (hp : w.heap[p]? = some (.cells cs 38 (0, 0))) (hq : w.heap[q]? = some (.cells #[.int .u8 x] 31 (0, 0))) (o : Obj) :
    ((((w.setRow p (pkNil PK.zeroPk)).setCell ⟨q, 0, none⟩ (.int .u8 128)).setCell ⟨q, 0, none⟩ (.int .u8 c)).alloc o).heap[p]? = some (.cells (pkNil PK.zeroPk) 38 (0, 0)) ∧
    ((((w.setRow p (pkNil PK.zeroPk)).setCell ⟨q, 0, none⟩ (.int .u8 128)).setCell ⟨q, 0, none⟩ (.int .u8 c)).alloc o).heap[q]? = some (.cells #[.int .u8 c] 31 (0, 0)) ∧
    G2 p q w ((((w.setRow p (pkNil PK.zeroPk)).setCell ⟨q, 0, none⟩ (.int .u8 128)).setCell ⟨q, 0, none⟩ (.int .u8 c)).alloc o) := by
  have e1 : (w.setRow p (pkNil PK.zeroPk)).heap[q]? = some (.cells #[.int .u8 x] 31 (0, 0)) := (setRow_other _ (Ne.symm hpq)).trans hq
  have e2 := one_setCell (u := .int .u8 128) e1
  have e3 := one_setCell (u := .int .u8 c) e2
  have hz : (((w.setRow p (pkNil PK.zeroPk)).setCell ⟨q, 0, none⟩ (.int .u8 128)).setCell ⟨q, 0, none⟩ (.int .u8 c)).heap.size = w.heap.size := by simp [World.setCell, World.setRow]
  have other : ∀ i, i ≠ q → (((w.setRow p (pkNil PK.zeroPk)).setCell ⟨q, 0, none⟩ (.int .u8 128)).setCell ⟨q, 0, none⟩ (.int .u8 c)).heap[i]? = (w.setRow p (pkNil PK.zeroPk)).heap[i]? := fun i hi => (Below.heap_setCell _ _ _ _ (fun e => hi (by simpa using e))).trans (Below.heap_setCell _ _ _ _ (fun e => hi (by simpa using e)))
  refine ⟨(Below.heap_alloc _ _ _ (by rw [hz]; exact lt_heap hp)).trans ((other p hpq).trans (setRow_heap hp)), (Below.heap_alloc _ _ _ (by rw [hz]; exact lt_heap hq)).trans e3, rfl, rfl, rfl, by simp, fun i hi h1 h2 => (Below.heap_alloc _ _ _ (by rw [hz]; exact hi)).trans ((other i h2).trans (setRow_other _ h1))⟩
theorem load_code_var {w : World} {q : Nat} {c : Int} (h : w.heap[q]? = some (.cells #[.int .u8 c] 31 (0, 0))) :
    (loadVar 31 ⟨q, 0, none⟩).run Tryd.prog w = .ok (.int .u8 c) w := by
  have hc : w.cell? ⟨q, 0, none⟩ = some (.int .u8 c) := by rw [cell_heap h]; rfl
  simp [go_sem, hc]
set_option maxRecDepth 100000 in
theorem read_both {w : World} {p q : Nat} {P : Pk} {vc vp vw vs vf : Value} {c : Int} (hp : w.heap[p]? = some (.cells (pkCells P vc vp vw vs vf) 38 (0, 0))) (hq : w.heap[q]? = some (.cells #[.int .u8 c] 31 (0, 0))) :
    ((Sem.run Tryd.prog (asAddr (.pointer (some ⟨p, 0, none⟩))) w).andThen fun a w' => (Sem.run Tryd.prog (loadVar 38 a) w').andThen fun a w' =>
      (Sem.run Tryd.prog (asAddr (.pointer (some ⟨q, 0, none⟩))) w').andThen fun a_1 w' => (Sem.run Tryd.prog (loadVar 31 a_1) w').andThen fun a_2 w' => Result.ok (Value.tuple #[a, a_2]) w') = .ok (.tuple #[.agg (pkCells P vc vp vw vs vf), .int .u8 c]) w := by
  show ((Sem.run Tryd.prog (loadVar 38 ⟨p, 0, none⟩) w).andThen _) = _
  rw [load_pk_var hp]
  show ((Sem.run Tryd.prog (loadVar 31 ⟨q, 0, none⟩) w).andThen _) = _
  rw [load_code_var hq]
  rfl
/-- What caught answers. -/
def CaP (r : Nat) (w : World) (X : Pk × Int) (e : Ending) (w' : World) : Prop :=
  (X.2 = 0 → ∃ vc vp vw vs vf, e = .returned (.tuple #[.agg (pkCells X.1 vc vp vw vs vf), .int .u8 0]) ∧ Own5 w.heap.size X.1 vc vp vw vs vf w' ∧ Gr r w w') ∧ (X.2 ≠ 0 → e = .returned (.tuple #[.agg (pkNil PK.zeroPk), .int .u8 X.2]) ∧ Gr r w w')

end Go.Proofs.YtlfgndhdifpngaaDoor
namespace Go.Proofs.YtlfgndhdifpngaaDoor
namespace VP

theorem str_at (xs : List Int) (i : Nat) (h : i < (strOfNums xs).size) (h' : i < xs.length) (h0 : 0 ≤ xs[i]) (h1 : xs[i] < 256) : (((strOfNums xs)[i]'h).toNat : Int) = xs[i] := by
  have e : (strOfNums xs)[i]'h = UInt8.ofNat (xs[i]).toNat := by
    show (strOfNums xs).data[i] = _
    simp [strOfNums]
  rw [e, UInt8.toNat_ofNat']
  omega

theorem got1 (s : ByteArray) (k : Nat) (a : Int) (h : k < s.size) (b0 : ((s[k]'(by omega)).toNat : Int) = a) (hl : a < 128) (hz : sz (0 + a) = 1) :
    get s k = (0 + a, (k : Int) + 1, 0) := by
  rw [get_in s k (by omega)]
  rw [last0 s k _ h (by omega) (by rw [b0]; exact hz), b0]

theorem got2 (s : ByteArray) (k : Nat) (a b : Int) (h : k + 1 < s.size) (b0 : ((s[k]'(by omega)).toNat : Int) = a) (b1 : ((s[k + 1]'(by omega)).toNat : Int) = b) (h0 : 128 ≤ a) (hl : b < 128) (hz : sz (0 + (a - 128) + b * 128) = 2) :
    get s k = (0 + (a - 128) + b * 128, (k : Int) + 1 + 1, 0) := by
  rw [get_in s k (by omega)]
  rw [more0 s k _ (by omega) (by omega), b0]
  rw [last1 s k _ h (by omega) (by rw [b1]; exact hz), b1]

theorem got3 (s : ByteArray) (k : Nat) (a b c : Int) (h : k + 2 < s.size) (b0 : ((s[k]'(by omega)).toNat : Int) = a) (b1 : ((s[k + 1]'(by omega)).toNat : Int) = b) (b2 : ((s[k + 2]'(by omega)).toNat : Int) = c) (h0 : 128 ≤ a) (h1 : 128 ≤ b) (hl : c < 128) (hz : sz (0 + (a - 128) + (b - 128) * 128 + c * 16384) = 3) :
    get s k = (0 + (a - 128) + (b - 128) * 128 + c * 16384, (k : Int) + 2 + 1, 0) := by
  rw [get_in s k (by omega)]
  rw [more0 s k _ (by omega) (by omega), b0]
  rw [more1 s k _ (by omega) (by omega), b1]
  rw [last2 s k _ h (by omega) (by rw [b2]; exact hz), b2]

theorem got4 (s : ByteArray) (k : Nat) (a b c d : Int) (h : k + 3 < s.size) (b0 : ((s[k]'(by omega)).toNat : Int) = a) (b1 : ((s[k + 1]'(by omega)).toNat : Int) = b) (b2 : ((s[k + 2]'(by omega)).toNat : Int) = c) (b3 : ((s[k + 3]'(by omega)).toNat : Int) = d) (h0 : 128 ≤ a) (h1 : 128 ≤ b) (h2 : 128 ≤ c) (hl : d < 128) (hz : sz (0 + (a - 128) + (b - 128) * 128 + (c - 128) * 16384 + d * 2097152) = 4) :
    get s k = (0 + (a - 128) + (b - 128) * 128 + (c - 128) * 16384 + d * 2097152, (k : Int) + 3 + 1, 0) := by
  rw [get_in s k (by omega)]
  rw [more0 s k _ (by omega) (by omega), b0]
  rw [more1 s k _ (by omega) (by omega), b1]
  rw [more2 s k _ (by omega) (by omega), b2]
  rw [last3 s k _ h (by omega) (by rw [b3]; exact hz), b3]

theorem get_put1 {n : Int} (h : 0 ≤ n) (h' : n < 128) : get (strOfNums (putL n)) 0 = (n, 1, 0) := by
  rw [putL_1 h h']
  generalize hs : strOfNums [n] = s
  have hz : s.size = 1 := by rw [← hs, strOfNums_size]; rfl
  have b0 : ((s[0]'(by omega)).toNat : Int) = n := by subst hs; exact str_at _ 0 (by omega) (by simp) (by simp; omega) (by simp; omega)
  have e : 0 + n = n := by omega
  have g := got1 s 0 (n) (by omega) (by simpa using b0) (by omega) (by rw [e]; exact sz_1 h h')
  rw [e] at g
  simpa using g

theorem get_put2 {n : Int} (h : 128 ≤ n) (h' : n < 16384) : get (strOfNums (putL n)) 0 = (n, 2, 0) := by
  rw [putL_2 h h']
  generalize hs : strOfNums [n % 128 + 128, n / 128] = s
  have hz : s.size = 2 := by rw [← hs, strOfNums_size]; rfl
  have b0 : ((s[0]'(by omega)).toNat : Int) = n % 128 + 128 := by subst hs; exact str_at _ 0 (by omega) (by simp) (by simp; omega) (by simp; omega)
  have b1 : ((s[1]'(by omega)).toNat : Int) = n / 128 := by subst hs; exact str_at _ 1 (by omega) (by simp) (by simp; omega) (by simp; omega)
  have e : 0 + ((n % 128 + 128) - 128) + n / 128 * 128 = n := by omega
  have g := got2 s 0 (n % 128 + 128) (n / 128) (by omega) (by simpa using b0) (by simpa using b1) (by omega) (by omega) (by rw [e]; exact sz_2 h h')
  rw [e] at g
  simpa using g

theorem get_put3 {n : Int} (h : 16384 ≤ n) (h' : n < 2097152) : get (strOfNums (putL n)) 0 = (n, 3, 0) := by
  rw [putL_3 h h']
  generalize hs : strOfNums [n % 128 + 128, n / 128 % 128 + 128, n / 16384] = s
  have hz : s.size = 3 := by rw [← hs, strOfNums_size]; rfl
  have b0 : ((s[0]'(by omega)).toNat : Int) = n % 128 + 128 := by subst hs; exact str_at _ 0 (by omega) (by simp) (by simp; omega) (by simp; omega)
  have b1 : ((s[1]'(by omega)).toNat : Int) = n / 128 % 128 + 128 := by subst hs; exact str_at _ 1 (by omega) (by simp) (by simp; omega) (by simp; omega)
  have b2 : ((s[2]'(by omega)).toNat : Int) = n / 16384 := by subst hs; exact str_at _ 2 (by omega) (by simp) (by simp; omega) (by simp; omega)
  have e : 0 + ((n % 128 + 128) - 128) + ((n / 128 % 128 + 128) - 128) * 128 + n / 16384 * 16384 = n := by omega
  have g := got3 s 0 (n % 128 + 128) (n / 128 % 128 + 128) (n / 16384) (by omega) (by simpa using b0) (by simpa using b1) (by simpa using b2) (by omega) (by omega) (by omega) (by rw [e]; exact sz_3 h h')
  rw [e] at g
  simpa using g

theorem get_put4 {n : Int} (h : 2097152 ≤ n) (h' : n ≤ 268435455) : get (strOfNums (putL n)) 0 = (n, 4, 0) := by
  rw [putL_4 h h']
  generalize hs : strOfNums [n % 128 + 128, n / 128 % 128 + 128, n / 16384 % 128 + 128, n / 2097152] = s
  have hz : s.size = 4 := by rw [← hs, strOfNums_size]; rfl
  have b0 : ((s[0]'(by omega)).toNat : Int) = n % 128 + 128 := by subst hs; exact str_at _ 0 (by omega) (by simp) (by simp; omega) (by simp; omega)
  have b1 : ((s[1]'(by omega)).toNat : Int) = n / 128 % 128 + 128 := by subst hs; exact str_at _ 1 (by omega) (by simp) (by simp; omega) (by simp; omega)
  have b2 : ((s[2]'(by omega)).toNat : Int) = n / 16384 % 128 + 128 := by subst hs; exact str_at _ 2 (by omega) (by simp) (by simp; omega) (by simp; omega)
  have b3 : ((s[3]'(by omega)).toNat : Int) = n / 2097152 := by subst hs; exact str_at _ 3 (by omega) (by simp) (by simp; omega) (by simp; omega)
  have e : 0 + ((n % 128 + 128) - 128) + ((n / 128 % 128 + 128) - 128) * 128 + ((n / 16384 % 128 + 128) - 128) * 16384 + n / 2097152 * 2097152 = n := by omega
  have g := got4 s 0 (n % 128 + 128) (n / 128 % 128 + 128) (n / 16384 % 128 + 128) (n / 2097152) (by omega) (by simpa using b0) (by simpa using b1) (by simpa using b2) (by simpa using b3) (by omega) (by omega) (by omega) (by omega) (by rw [e]; exact sz_4 h h')
  rw [e] at g
  simpa using g

theorem putL_len {n : Int} (h : 0 ≤ n) (h' : n ≤ 268435455) : ((putL n).length : Int) = sz n := by
  rcases (show (n < 128) ∨ (128 ≤ n ∧ n < 16384) ∨ (16384 ≤ n ∧ n < 2097152) ∨ (2097152 ≤ n) from by omega) with g | ⟨g, g'⟩ | ⟨g, g'⟩ | g
  · rw [putL_1 h g, sz_1 h g]; rfl
  · rw [putL_2 g g', sz_2 g g']; rfl
  · rw [putL_3 g g', sz_3 g g']; rfl
  · rw [putL_4 g h', sz_4 g h']; rfl

theorem get_put {n : Int} (h : 0 ≤ n) (h' : n ≤ 268435455) : get (strOfNums (putL n)) 0 = (n, ((putL n).length : Int), 0) := by
  rw [putL_len h h']
  rcases (show (n < 128) ∨ (128 ≤ n ∧ n < 16384) ∨ (16384 ≤ n ∧ n < 2097152) ∨ (2097152 ≤ n) from by omega) with g | ⟨g, g'⟩ | ⟨g, g'⟩ | g
  · rw [get_put1 h g, sz_1 h g]
  · rw [get_put2 g g', sz_2 g g']
  · rw [get_put3 g g', sz_3 g g']
  · rw [get_put4 g h', sz_4 g h']

theorem sz_inv1 {x : Int} (h : sz x = 1) : 0 ≤ x ∧ x < 128 := by unfold sz at h; repeat' split at h; all_goals omega
theorem sz_inv2 {x : Int} (h : sz x = 2) : 128 ≤ x ∧ x < 16384 := by unfold sz at h; repeat' split at h; all_goals omega
theorem sz_inv3 {x : Int} (h : sz x = 3) : 16384 ≤ x ∧ x < 2097152 := by unfold sz at h; repeat' split at h; all_goals omega
theorem sz_inv4 {x : Int} (h : sz x = 4) : 2097152 ≤ x ∧ x ≤ 268435455 := by unfold sz at h; repeat' split at h; all_goals omega

theorem byte_lt (s : ByteArray) (k : Nat) (h : k < s.size) : ((s[k]'h).toNat : Int) < 256 := by
  have := (s[k]'h).toNat_lt
  omega

/-- What it is that a number was read of: its bytes, and no others. -/
def Read (s : ByteArray) (k : Nat) : Prop :=
  ∃ (x : Int) (m : Nat), 1 ≤ m ∧ k + m ≤ s.size ∧ 0 ≤ x ∧ x ≤ 268435455 ∧ (putL x).length = m ∧ get s k = (x, (k : Int) + m, 0) ∧
    ∀ i (h : k + i < s.size) (h' : i < (putL x).length), ((s[k + i]'h).toNat : Int) = (putL x)[i]

theorem read_got1 (s : ByteArray) (k : Nat) (a : Int) (h : k < s.size) (b0 : ((s[k]'(by omega)).toNat : Int) = a) (_h0 : 0 ≤ a) (hl : a < 128) (hz : sz (0 + a) = 1) : Read s k := by
  obtain ⟨r0, r1⟩ := sz_inv1 hz
  have hp := putL_1 r0 r1
  refine ⟨0 + a, 1, by omega, by omega, by omega, by omega, by rw [hp]; rfl, ?_, ?_⟩
  · rw [got1 s k a h b0 hl hz]
    simp
    try omega
  · intro j hj hj'
    simp only [hp]
    rw [hp] at hj'
    match j, hj' with
    | 0, _ => simp only [Nat.add_zero]; simp; omega

theorem read_got2 (s : ByteArray) (k : Nat) (a b : Int) (h : k + 1 < s.size) (b0 : ((s[k]'(by omega)).toNat : Int) = a) (b1 : ((s[k + 1]'(by omega)).toNat : Int) = b) (h0 : 128 ≤ a) (g0 : a < 256) (_h1 : 0 ≤ b) (hl : b < 128) (hz : sz (0 + (a - 128) + b * 128) = 2) : Read s k := by
  obtain ⟨r0, r1⟩ := sz_inv2 hz
  have hp := putL_2 r0 r1
  refine ⟨0 + (a - 128) + b * 128, 2, by omega, by omega, by omega, by omega, by rw [hp]; rfl, ?_, ?_⟩
  · rw [got2 s k a b h b0 b1 h0 hl hz]
    simp
    try omega
  · intro j hj hj'
    simp only [hp]
    rw [hp] at hj'
    match j, hj' with
    | 0, _ => simp only [Nat.add_zero]; simp; omega
    | 1, _ => simp; omega

theorem read_got3 (s : ByteArray) (k : Nat) (a b c : Int) (h : k + 2 < s.size) (b0 : ((s[k]'(by omega)).toNat : Int) = a) (b1 : ((s[k + 1]'(by omega)).toNat : Int) = b) (b2 : ((s[k + 2]'(by omega)).toNat : Int) = c) (h0 : 128 ≤ a) (g0 : a < 256) (h1 : 128 ≤ b) (g1 : b < 256) (_h2 : 0 ≤ c) (hl : c < 128) (hz : sz (0 + (a - 128) + (b - 128) * 128 + c * 16384) = 3) : Read s k := by
  obtain ⟨r0, r1⟩ := sz_inv3 hz
  have hp := putL_3 r0 r1
  refine ⟨0 + (a - 128) + (b - 128) * 128 + c * 16384, 3, by omega, by omega, by omega, by omega, by rw [hp]; rfl, ?_, ?_⟩
  · rw [got3 s k a b c h b0 b1 b2 h0 h1 hl hz]
    simp
    try omega
  · intro j hj hj'
    simp only [hp]
    rw [hp] at hj'
    match j, hj' with
    | 0, _ => simp only [Nat.add_zero]; simp; omega
    | 1, _ => simp; omega
    | 2, _ => simp; omega

theorem read_got4 (s : ByteArray) (k : Nat) (a b c d : Int) (h : k + 3 < s.size) (b0 : ((s[k]'(by omega)).toNat : Int) = a) (b1 : ((s[k + 1]'(by omega)).toNat : Int) = b) (b2 : ((s[k + 2]'(by omega)).toNat : Int) = c) (b3 : ((s[k + 3]'(by omega)).toNat : Int) = d) (h0 : 128 ≤ a) (g0 : a < 256) (h1 : 128 ≤ b) (g1 : b < 256) (h2 : 128 ≤ c) (g2 : c < 256) (_h3 : 0 ≤ d) (hl : d < 128) (hz : sz (0 + (a - 128) + (b - 128) * 128 + (c - 128) * 16384 + d * 2097152) = 4) : Read s k := by
  obtain ⟨r0, r1⟩ := sz_inv4 hz
  have hp := putL_4 r0 r1
  refine ⟨0 + (a - 128) + (b - 128) * 128 + (c - 128) * 16384 + d * 2097152, 4, by omega, by omega, by omega, by omega, by rw [hp]; rfl, ?_, ?_⟩
  · rw [got4 s k a b c d h b0 b1 b2 b3 h0 h1 h2 hl hz]
    simp
    try omega
  · intro j hj hj'
    simp only [hp]
    rw [hp] at hj'
    match j, hj' with
    | 0, _ => simp only [Nat.add_zero]; simp; omega
    | 1, _ => simp; omega
    | 2, _ => simp; omega
    | 3, _ => simp; omega

theorem get_inv (s : ByteArray) (k : Nat) (hk : k ≤ s.size) (hc : (get s k).2.2 = 0) : Read s k := by
  have hg := get_in s k hk
  by_cases l0 : k < s.size
  · have w0 := byte_lt s k l0
    by_cases c0 : ((s[k]'l0).toNat : Int) < 128
    · refine read_got1 s k _ l0 rfl (by omega) c0 ?_
      exact sz_1 (by omega) (by omega)
    · rw [more0 s k 0 l0 c0] at hg
      by_cases l1 : k + 1 < s.size
      · have w1 := byte_lt s (k + 1) l1
        by_cases c1 : ((s[k + 1]'l1).toNat : Int) < 128
        · by_cases hz : sz (0 + (((s[k]'l0).toNat : Int) - 128) + ((s[k + 1]'l1).toNat : Int) * 128) = 2
          · exact read_got2 s k _ _ l1 rfl rfl (by omega) w0 (by omega) c1 hz
          · rw [bad1 s k _ l1 c1 hz] at hg; rw [hg] at hc; exact absurd hc (by decide)
        · rw [more1 s k _ l1 c1] at hg
          by_cases l2 : k + 2 < s.size
          · have w2 := byte_lt s (k + 2) l2
            by_cases c2 : ((s[k + 2]'l2).toNat : Int) < 128
            · by_cases hz : sz (0 + (((s[k]'l0).toNat : Int) - 128) + (((s[k + 1]'l1).toNat : Int) - 128) * 128 + ((s[k + 2]'l2).toNat : Int) * 16384) = 3
              · exact read_got3 s k _ _ _ l2 rfl rfl rfl (by omega) w0 (by omega) w1 (by omega) c2 hz
              · rw [bad2 s k _ l2 c2 hz] at hg; rw [hg] at hc; exact absurd hc (by decide)
            · rw [more2 s k _ l2 c2] at hg
              by_cases l3 : k + 3 < s.size
              · have w3 := byte_lt s (k + 3) l3
                by_cases c3 : ((s[k + 3]'l3).toNat : Int) < 128
                · by_cases hz : sz (0 + (((s[k]'l0).toNat : Int) - 128) + (((s[k + 1]'l1).toNat : Int) - 128) * 128 + (((s[k + 2]'l2).toNat : Int) - 128) * 16384 + ((s[k + 3]'l3).toNat : Int) * 2097152) = 4
                  · exact read_got4 s k _ _ _ _ l3 rfl rfl rfl rfl (by omega) w0 (by omega) w1 (by omega) w2 (by omega) c3 hz
                  · rw [bad3 s k _ l3 c3 hz] at hg; rw [hg] at hc; exact absurd hc (by decide)
                · rw [more3 s k _ l3 c3, getG_0] at hg; rw [hg] at hc; exact absurd hc (by decide)
              · rw [ends3 s k _ l3] at hg; rw [hg] at hc; exact absurd hc (by decide)
          · rw [ends2 s k _ l2] at hg; rw [hg] at hc; exact absurd hc (by decide)
      · rw [ends1 s k _ l1] at hg; rw [hg] at hc; exact absurd hc (by decide)
  · rw [ends0 s k _ l0] at hg; rw [hg] at hc; exact absurd hc (by decide)

theorem extract_eq (s : ByteArray) (m : Nat) (xs : List Int) (hm : xs.length = m) (hs : m ≤ s.size) (hb : ∀ i (h : i < s.size) (h' : i < xs.length), ((s[i]'h).toNat : Int) = xs[i]) : s.extract 0 m = strOfNums xs := by
  apply ByteArray.ext
  apply Array.ext
  · simp [strOfNums, hm]; omega
  · intro i h1 h2
    have hi : i < xs.length := by simpa [strOfNums] using h2
    have hx := hb i (by omega) hi
    have hx' : xs[i].toNat = (s[i]'(by omega)).toNat := by omega
    simp only [strOfNums, ByteArray.data_extract]
    simp only [Array.getElem_extract, List.getElem_toArray, List.getElem_map, Nat.zero_add, hx', UInt8.ofNat_toNat]
    rfl

theorem read_back (s : ByteArray) (hc : (get s 0).2.2 = 0) : ∃ (x : Int) (m : Nat), 1 ≤ m ∧ m ≤ s.size ∧ 0 ≤ x ∧ x ≤ 268435455 ∧ get s 0 = (x, (m : Int), 0) ∧ s.extract 0 m = strOfNums (putL x) := by
  obtain ⟨x, m, h1, h2, h3, h4, h5, h6, h7⟩ := get_inv s 0 (Nat.zero_le _) hc
  refine ⟨x, m, h1, by omega, h3, h4, by simpa using h6, ?_⟩
  exact extract_eq s m (putL x) h5 (by omega) (fun i h h' => by have := h7 i (by omega) h'; simpa using this)

end VP
end Go.Proofs.YtlfgndhdifpngaaDoor
namespace Go.Proofs.YtlfgndhdifpngaaDoor
namespace ST
/-- How many bytes the packet has that stands whole at the beginning of s, and the code. -/
def first (s : ByteArray) (most : Int) : Int × Int :=
  if s.size = 0 then (0, 242) else if (VP.get s 1).2.2 ≠ 0 then (0, (VP.get s 1).2.2) else
  if most < (VP.get s 1).2.1 + (VP.get s 1).1 then (0, 149) else
  if (s.size : Int) < (VP.get s 1).2.1 + (VP.get s 1).1 then (0, 242) else ((VP.get s 1).2.1 + (VP.get s 1).1, 0)
theorem get1 (s : ByteArray) (h : s.size ≠ 0) (hc : (VP.get s 1).2.2 = 0) : ∃ n b : Nat, VP.get s 1 = ((n : Int), (b : Int), 0) ∧ n ≤ 268435455 ∧ 2 ≤ b ∧ b ≤ s.size := by
  obtain ⟨x, m, h1, h2, h3, h4, _, h6, _⟩ := VP.get_inv s 1 (by omega) hc
  obtain ⟨n, rfl⟩ := Int.eq_ofNat_of_zero_le h3
  exact ⟨n, 1 + m, by rw [show ((1 : Int)) = ((1 : Nat) : Int) from rfl, h6]; simp, by omega, by omega, by omega⟩
theorem first_ok (s : ByteArray) (most : Int) (h : (first s most).2 = 0) : ∃ k : Nat, first s most = ((k : Int), 0) ∧ 2 ≤ k ∧ k ≤ s.size := by
  unfold first at h ⊢
  by_cases h0 : s.size = 0
  · rw [if_pos h0] at h; exact absurd h (by decide)
  rw [if_neg h0] at h ⊢
  by_cases h1 : (VP.get s 1).2.2 ≠ 0
  · rw [if_pos h1] at h; exact absurd h h1
  rw [if_neg h1] at h ⊢
  obtain ⟨n, b, hg, hn, hb1, hb2⟩ := get1 s h0 (Classical.not_not.1 h1)
  rw [hg] at h ⊢
  simp only at h ⊢
  by_cases h2 : most < (b : Int) + n
  · rw [if_pos h2] at h; exact absurd h (by decide)
  rw [if_neg h2] at h ⊢
  by_cases h3 : (s.size : Int) < (b : Int) + n
  · rw [if_pos h3] at h; exact absurd h (by decide)
  rw [if_neg h3]
  exact ⟨b + n, by simp, by omega, by omega⟩
/-- The packets from a place on whose f is no code; the place behind them, and the code. -/
def thr (s : ByteArray) (most : Int) (f : ByteArray → Int) : Nat → Nat → List ByteArray × Nat × Int
  | 0, a => ([], a, 0)
  | u + 1, a =>
    if (first (s.extract a s.size) most).2 = 0 then
      if f (s.extract a (a + (first (s.extract a s.size) most).1.toNat)) = 0 then
        (s.extract a (a + (first (s.extract a s.size) most).1.toNat) :: (thr s most f u (a + (first (s.extract a s.size) most).1.toNat)).1, (thr s most f u (a + (first (s.extract a s.size) most).1.toNat)).2)
      else ([], a, f (s.extract a (a + (first (s.extract a s.size) most).1.toNat)))
    else ([], a, if (first (s.extract a s.size) most).2 = 242 then 0 else (first (s.extract a s.size) most).2)
/-- What a loop has done of them. -/
def Thr (s : ByteArray) (most : Int) (f : ByteArray → Int) (l : List ByteArray) (a : Nat) : Prop :=
  ∃ u, s.size < a + u ∧ a ≤ s.size ∧ 2 * l.length ≤ a ∧ thr s most f (s.size + 1) 0 = (l ++ (thr s most f u a).1, (thr s most f u a).2)
theorem Thr.start (s : ByteArray) (most : Int) (f : ByteArray → Int) : Thr s most f [] 0 := ⟨s.size + 1, by omega, by omega, by simp, by simp⟩
theorem Thr.step {s : ByteArray} {most : Int} {f : ByteArray → Int} {l : List ByteArray} {a k : Nat} (h : Thr s most f l a) (hf : first (s.extract a s.size) most = ((k : Int), 0)) (hk : 2 ≤ k) (hk2 : a + k ≤ s.size) (h0 : f (s.extract a (a + k)) = 0) : Thr s most f (l ++ [s.extract a (a + k)]) (a + k) := by
  obtain ⟨u, h1, h2, h3, h4⟩ := h
  obtain ⟨v, rfl⟩ : ∃ v, u = v + 1 := ⟨u - 1, by omega⟩
  refine ⟨v, by omega, hk2, by simp; omega, ?_⟩
  rw [h4, thr, hf]
  simp [h0]
theorem Thr.left {s : ByteArray} {most : Int} {f : ByteArray → Int} {l : List ByteArray} {a k : Nat} (h : Thr s most f l a) (hf : first (s.extract a s.size) most = ((k : Int), 0)) (h0 : f (s.extract a (a + k)) ≠ 0) : thr s most f (s.size + 1) 0 = (l, a, f (s.extract a (a + k))) := by
  obtain ⟨u, h1, h2, h3, h4⟩ := h
  obtain ⟨v, rfl⟩ : ∃ v, u = v + 1 := ⟨u - 1, by omega⟩
  rw [h4, thr, hf]
  simp [h0]
theorem Thr.stop {s : ByteArray} {most : Int} {f : ByteArray → Int} {l : List ByteArray} {a : Nat} (h : Thr s most f l a) (hf : (first (s.extract a s.size) most).2 ≠ 0) : thr s most f (s.size + 1) 0 = (l, a, if (first (s.extract a s.size) most).2 = 242 then 0 else (first (s.extract a s.size) most).2) := by
  obtain ⟨u, h1, h2, h3, h4⟩ := h
  obtain ⟨v, rfl⟩ : ∃ v, u = v + 1 := ⟨u - 1, by omega⟩
  rw [h4, thr, if_neg hf]
  simp
theorem Thr.size {s : ByteArray} {most : Int} {f : ByteArray → Int} {l : List ByteArray} {a : Nat} (h : Thr s most f l a) : a ≤ s.size ∧ 2 * l.length ≤ a := by
  obtain ⟨u, h1, h2, h3, h4⟩ := h
  exact ⟨h2, h3⟩
end ST
end Go.Proofs.YtlfgndhdifpngaaDoor
namespace Go.Proofs.YtlfgndhdifpngaaDoor
open Go.RowKit

theorem empty_list {s : ByteArray} (h : s.size = 0) : s = ⟨#[]⟩ := by
  cases s with | mk d => cases d with | mk l => cases l with
    | nil => rfl
    | cons a b => simp [ByteArray.size] at h
theorem nonempty_list {s : ByteArray} (h : s.size ≠ 0) : (s.toList == []) = false := by
  rw [beq_eq_false_iff_ne]
  intro e
  rw [ByteArray.toList_eq] at e
  apply h
  cases s with | mk d => cases d with | mk l => cases l with
    | nil => rfl
    | cons a b => simp at e
theorem st_from (s : ByteArray) (k : Nat) (h : k ≤ s.size) (w : World) :
    (Instr.slice 9 (.string s) (some (.int .i64 (k : Int))) none none).run Tryd.prog w = .ok (.string (s.extract k s.size)) w := by
  rw [run_slice_string_from_if w 9 s .i64 _ Tryd.underlying9, if_pos (by omega)]
  rfl
theorem st_upto (s : ByteArray) (k : Nat) (h : k ≤ s.size) (w : World) :
    (Instr.slice 9 (.string s) none (some (.int .i64 (k : Int))) none).run Tryd.prog w = .ok (.string (s.extract 0 k)) w := by
  rw [run_slice_string_to_if w 9 s .i64 _ Tryd.underlying9, if_pos (by omega)]
  rfl
theorem st_part (s : ByteArray) (a k : Nat) (h : a + k ≤ s.size) (w : World) :
    (Instr.slice 9 (.string s) (some (.int .i64 (a : Int))) (some (.int .i64 ((a : Int) + (k : Int)))) none).run Tryd.prog w = .ok (.string (s.extract a (a + k))) w := by
  rw [run_slice_string_if w 9 s .i64 .i64 _ _ Tryd.underlying9, if_pos (by omega), if_pos (by omega)]
  have e1 : ((a : Int)).toNat = a := by omega
  have e2 : ((a : Int) + (k : Int)).toNat = a + k := by omega
  rw [e1, e2]

end Go.Proofs.YtlfgndhdifpngaaDoor
namespace Go.Proofs.YtlfgndhdifpngaaDoor
open Go.RowKit
attribute [local go_sem ↓] Go.wp_at_zero Go.wp_at_succ

namespace PK
/-- The first byte. -/
def b0 (s : ByteArray) : Int := if h : 0 < s.size then ((s[0]'h).toNat : Int) else 0
/-- What speaks against a packet's length. -/
def hdC (s : ByteArray) : Int := if (VP.get s 1).2.2 = 0 then lenC (VP.get s 1).1 ((s.size : Int) - (VP.get s 1).2.1) else (VP.get s 1).2.2
/-- The packet that bytes are, and the code. -/
def getPk (s : ByteArray) : Pk × Int :=
  if s.size = 0 then (zeroPk, 242) else if begOk (b0 s) = false then (zeroPk, 129) else if hdC s ≠ 0 then (zeroPk, hdC s)
  else if (rdWhole s (VP.get s 1).2.1 (begPk (b0 s))).2 ≠ 0 then (zeroPk, (rdWhole s (VP.get s 1).2.1 (begPk (b0 s))).2) else ((rdWhole s (VP.get s 1).2.1 (begPk (b0 s))).1, 0)
end PK
/-- What Get answers. -/
def GtP (w : World) (X : Pk × Int) (e : Ending) (w' : World) : Prop :=
  (X.2 = 0 → ∃ vc vp vw vs vf, e = .returned (.tuple #[.agg (pkCells X.1 vc vp vw vs vf), .int .u8 0]) ∧ Own5 w.heap.size X.1 vc vp vw vs vf w') ∧ (X.2 ≠ 0 → e = .returned (.tuple #[.agg (pkNil PK.zeroPk), .int .u8 X.2])) ∧ Below w.heap.size w w'
theorem GtP.bad {w w' : World} {c : Int} (hc : c ≠ 0) (hb : Below w.heap.size w w') : GtP w (PK.zeroPk, c) (.returned (.tuple #[.agg (pkNil PK.zeroPk), .int .u8 c])) w' :=
  ⟨fun h => absurd h hc, fun _ => rfl, hb⟩
theorem below_of_gr {n r : Nat} {w W W' : World} (h : Below n w W) (hn : n ≤ W.heap.size) (hr : n ≤ r) (g : Gr r W W') : Below n w W' :=
  h.trans ⟨g.os, g.tape, g.output, g.size, fun i hi => g.block i (by omega) (fun e => by injection e with e; omega)⟩
theorem beg_kind (n : Int) (h : PK.begOk n = true) : 1 ≤ (PK.begPk n).kind ∧ (PK.begPk n).kind ≤ 15 ∧ Bare (PK.begPk n) := by
  by_cases h3 : n / 16 = 3
  · unfold PK.begPk; rw [if_pos h3]
    exact ⟨(by decide : (1 : Int) ≤ 3), (by decide : (3 : Int) ≤ 15), ⟨rfl, rfl, rfl, rfl, rfl, rfl⟩⟩
  · unfold PK.begOk at h
    rw [if_neg h3] at h
    unfold PK.begPk; rw [if_neg h3]
    simp [PK.isK] at h
    exact ⟨h.1.1, h.1.2, ⟨rfl, rfl, rfl, rfl, rfl, rfl⟩⟩

end Go.Proofs.YtlfgndhdifpngaaDoor
namespace Go.Proofs.YtlfgndhdifpngaaDoor
open Go.RowKit

end Go.Proofs.YtlfgndhdifpngaaDoor
namespace Go.Proofs.YtlfgndhdifpngaaDoor
open Go.RowKit

theorem ownF_below {B : Nat} {e : TypeId} {k : Nat} {v : Value} {n : Nat} {xs : List Value} {w w' : World} (h : w.ownsRowF B e k v n xs) (hb : Below w.heap.size w w') : w'.ownsRowF B e k v n xs :=
  h.kept (row := none) ⟨hb.os, hb.tape, hb.output, hb.size, fun i hi _ => hb.block i hi⟩ (by cases hv : v.ownBlock <;> simp)
theorem ownF_set {w : World} {b j : Nat} {B : Nat} {e : TypeId} {k : Nat} {v u : Value} {n : Nat} {xs : List Value} (h : w.ownsRowF B e k v n xs) (hne : v.ownBlock ≠ some b) : (w.setCell ⟨b, j, none⟩ u).ownsRowF B e k v n xs :=
  h.kept (row := some b) ⟨rfl, rfl, rfl, by simp [World.setCell], fun i _ hi => Below.heap_setCell _ _ _ _ (fun e => hi (by simp [e]))⟩ (.inr hne)
theorem ownF_row {w : World} {B : Nat} {e : TypeId} {k : Nat} {v : Value} {n : Nat} {xs : List Value} (h : w.ownsRowF B e k v n xs) : ∀ g, v.ownBlock = some g → ∃ c fz, w.heap[g]? = some (.cells c e fz) := by
  intro g hg
  rcases h.2 with ⟨rfl, _⟩ | ⟨g', c, u, fz, rfl, _, hh, _⟩
  · cases hg
  · simp only [Value.ownBlock, Option.some.injEq] at hg
    subst hg
    exact ⟨_, _, hh⟩
theorem ownF_form {B : Nat} {e : TypeId} {k : Nat} {v : Value} {n : Nat} {xs : List Value} {w : World} (h : w.ownsRowF B e k v n xs) : ∃ A cap, v = .slice A n cap := by
  rcases h.2 with ⟨rfl, rfl⟩ | ⟨g, cap, cur, fz, rfl, _⟩
  · exact ⟨_, _, rfl⟩
  · exact ⟨_, _, rfl⟩
set_option maxHeartbeats 1000000 in
set_option maxRecDepth 100000 in
theorem fcopy_used (r : Nat) (w : World) (h0 : w.cell? ⟨r, 1, none⟩ = some (.pointer (some ⟨r, 1, none⟩))) :
    Calls Tryd.prog 79 #[.pointer (some ⟨r, 1, none⟩)] w fun e w' => e = .returned (.tuple #[]) ∧ w = w' := by
  obtain ⟨j, hj, _⟩ := bldInfo
  have hn := Lib.run_neq_ptr_same (P := Tryd.prog) w ⟨r, 1, none⟩ Tryd.underlying61 hj
  clear hj
  go_enter Tryd.func79, Tryd.ntmps79
  go_wp2
  go_end0
  exact ⟨rfl, rfl⟩
end Go.Proofs.YtlfgndhdifpngaaDoor
namespace Go.Proofs.YtlfgndhdifpngaaDoor
open Go.RowKit

theorem freeze_other {w : World} {g k n : Nat} (h : k ≠ g) : (w.freeze ⟨g, 0, none⟩ n).heap[k]? = w.heap[k]? := by
  unfold World.freeze
  split
  · rfl
  · simp [Array.getElem?_modify, Ne.symm h]
theorem freeze_self {w : World} {g n m : Nat} {cur : Array Value} {e : TypeId} {fz : Nat × Nat} (h : w.heap[g]? = some (.cells cur e fz)) (hf : fz.2 ≤ m) (hn : n ≤ m) : ∃ fz', (w.freeze ⟨g, 0, none⟩ n).heap[g]? = some (.cells cur e fz') ∧ fz'.2 ≤ m := by
  obtain ⟨lo, hi⟩ := fz
  unfold World.freeze
  split
  · exact ⟨_, h, hf⟩
  · simp [Array.getElem?_modify, h]
    simp only at hf
    split
    · simp; omega
    · simp; omega
theorem freeze_size {w : World} {g n : Nat} : (w.freeze ⟨g, 0, none⟩ n).heap.size = w.heap.size := by
  unfold World.freeze
  split
  · rfl
  · simp
theorem Kp.freeze {r g n : Nat} {w : World} {cur : Array Value} {fz : Nat × Nat} (hr : r ≤ g) (h : w.heap[g]? = some (.cells cur 5 fz)) : Kp r w (w.freeze ⟨g, 0, none⟩ n) :=
  ⟨Lib.below_freeze (Below.refl r w) (p := ⟨g, 0, none⟩) hr n, fun k o hk hb he => by
    by_cases e : k = g
    · subst e; rw [h] at hk; injection hk with hk; exact absurd hk.symm (he _ _)
    · exact (freeze_other e).trans hk⟩
theorem Kp.drew {b : Nat} {w w' : World} (h : Kp b w.drew w') : Kp b w w' := ⟨⟨h.1.os, h.1.tape, h.1.output, h.1.size, h.1.block⟩, h.2⟩

end Go.Proofs.YtlfgndhdifpngaaDoor
namespace Go.Proofs.YtlfgndhdifpngaaDoor
open Go.RowKit
attribute [local go_sem ↓] Go.wp_at_zero Go.wp_at_succ

/-- A packet and the values of its five rows. -/
structure Pv where
  p : Pk
  vc : Value
  vp : Value
  vw : Value
  vs : Value
  vf : Value
def Pv.cells (x : Pv) : List Value := (pkCells x.p x.vc x.vp x.vw x.vs x.vf).toList
def Pv.Own (x : Pv) (B : Nat) (w : World) : Prop := Own5 B x.p x.vc x.vp x.vw x.vs x.vf w
/-- A row of packets. -/
structure PkRow (B : Nat) (v : Value) (L : List Pv) (w : World) : Prop where
  row : w.ownsRow B 38 26 v L.length (L.flatMap Pv.cells)
  own : ∀ x ∈ L, x.Own B w
theorem own5_kept {B : Nat} {P : Pk} {vc vp vw vs vf : Value} {w w' : World} {row : Option Nat} (h : Own5 B P vc vp vw vs vf w) (hg : w.grownBy w' row) (hr : ∀ g, row = some g → ∃ c fz, w.heap[g]? = some (.cells c 38 fz)) : Own5 B P vc vp vw vs vf w' := by
  have key : ∀ {e : TypeId} {k : Nat} {v : Value} {n : Nat} {xs : List Value}, e ≠ 38 → w.ownsRow B e k v n xs → w'.ownsRow B e k v n xs := fun {e k v n xs} he ho => by
    refine ho.kept hg ?_
    cases hv : v.ownBlock with
    | none => exact .inl rfl
    | some g =>
      refine .inr (fun e' => ?_)
      obtain ⟨c, fz, h1⟩ := hr g e'.symm
      obtain ⟨c2, fz2, h2⟩ := own_row ho g hv
      rw [h1] at h2
      simp at h2
      exact he h2.2.1.symm
  exact ⟨key (by decide) h.codes, key (by decide) h.props, key (by decide) h.wprops, key (by decide) h.subs, key (by decide) h.filters⟩
theorem own5_base {B C : Nat} {P : Pk} {vc vp vw vs vf : Value} {w : World} (h : Own5 B P vc vp vw vs vf w) (hC : C ≤ B) : Own5 C P vc vp vw vs vf w :=
  ⟨own_base' h.codes hC, own_base' h.props hC, own_base' h.wprops hC, own_base' h.subs hC, own_base' h.filters hC⟩
theorem own5_below {B : Nat} {P : Pk} {vc vp vw vs vf : Value} {w w' : World} (h : Own5 B P vc vp vw vs vf w) (hb : Below w.heap.size w w') : Own5 B P vc vp vw vs vf w' :=
  ⟨own_below h.codes hb, own_below h.props hb, own_below h.wprops hb, own_below h.subs hb, own_below h.filters hb⟩
theorem own5_set {B b j : Nat} {P : Pk} {vc vp vw vs vf u : Value} {w : World} (h : Own5 B P vc vp vw vs vf w) (hb : b < B) : Own5 B P vc vp vw vs vf (w.setCell ⟨b, j, none⟩ u) :=
  ⟨own_set h.codes (row_ne h.codes hb), own_set h.props (row_ne h.props hb), own_set h.wprops (row_ne h.wprops hb), own_set h.subs (row_ne h.subs hb), own_set h.filters (row_ne h.filters hb)⟩
theorem PkRow.below {B : Nat} {v : Value} {L : List Pv} {w w' : World} (h : PkRow B v L w) (hb : Below w.heap.size w w') : PkRow B v L w' := ⟨own_below h.row hb, fun x hx => own5_below (h.own x hx) hb⟩
theorem PkRow.base {B C : Nat} {v : Value} {L : List Pv} {w : World} (h : PkRow B v L w) (hC : C ≤ B) : PkRow C v L w := ⟨own_base' h.row hC, fun x hx => own5_base (h.own x hx) hC⟩
theorem PkRow.set {B b j : Nat} {v u : Value} {L : List Pv} {w : World} (h : PkRow B v L w) (hb : b < B) : PkRow B v L (w.setCell ⟨b, j, none⟩ u) := ⟨own_set h.row (row_ne h.row hb), fun x hx => own5_set (h.own x hx) hb⟩
theorem pkInfo : ∃ z n, (Tryd.prog.info? 38).map (fun i => (i.zero, i.size, i.bytes)) = some (some z, 26, n) ∧ z.cells.size = 26 ∧ n ≤ 1000 := ⟨.agg (pkNil PK.zeroPk), 328, by kernel_rfl, rfl, by decide⟩

theorem fill_pk26 (P : Pk) (vc vp vw vs vf : Value) : Array.foldl (fun (cs : Array Value) (x : Value × Nat) => cs.setIfInBounds x.2 x.1) #[.int .i64 0, .bool false, .bool false, .int .i64 0, .int .i64 0, .string ⟨#[]⟩, .string ⟨#[]⟩, .int .u8 0, .slice none 0 0, .slice none 0 0, .string ⟨#[]⟩, .bool false, .int .i64 0, .bool false, .string ⟨#[]⟩, .string ⟨#[]⟩, .int .i64 0, .bool false, .slice none 0 0, .bool false, .bool false, .string ⟨#[]⟩, .string ⟨#[]⟩, .bool false, .slice none 0 0, .slice none 0 0] (pkCells P vc vp vw vs vf).zipIdx 0 26 = pkCells P vc vp vw vs vf := by
  kernel_rfl

end Go.Proofs.YtlfgndhdifpngaaDoor
namespace Go.Proofs.YtlfgndhdifpngaaDoor
open Go.RowKit

section
variable {P : Program} {ops : Array Oper} {Q : Exit → Act → World → Prop} {md : Region.Mode} {S : World → Prop} {T : Nat}

/-- Whatever order is picked, and S holds behind each operation below T. -/
def wpAnyT (P : Program) (md : Region.Mode) (ops : Array Oper) (Q : Exit → Act → World → Prop) (S : World → Prop) (T : Nat) : Nat → Array Bool → Act → World → Prop
  | 0, listed, a, w => Region.ready md ops listed = [] ∧ Q .normal a w
  | fuel + 1, listed, a, w => (Region.ready md ops listed = [] → Q .normal a w) ∧
    ∀ i ∈ Region.ready md ops listed, wpOp P ops Q i (fun a' w' => (i < T → S w') ∧ wpAnyT P md ops Q S T fuel (listed.setIfInBounds i true) a' w') a w
theorem wpAny_of_T : ∀ (fuel : Nat) (listed : Array Bool) (a : Act) (w : World), wpAnyT P md ops Q S T fuel listed a w → wpAny P md ops Q fuel listed a w
  | 0, _, _, _, h => h
  | fuel + 1, _, _, _, h => ⟨h.1, fun i hi => wpOp_mono (fun a' w' h' => wpAny_of_T fuel _ a' w' h'.2) (h.2 i hi)⟩
/-- Number j waits for number i. -/
def waitsB (md : Region.Mode) (ops : Array Oper) (j i : Nat) : Bool :=
  match ops[j]? with
  | some o => o.after.any fun e => Region.binds md e && e.on == i
  | none => false
theorem waitsB_spec {j i : Nat} {oj : Oper} (h : waitsB md ops j i = true) (hj : ops[j]? = some oj) : ∃ e ∈ oj.after, Region.binds md e = true ∧ e.on = i := by
  unfold waitsB at h
  rw [hj] at h
  obtain ⟨e, he, hb⟩ := Array.any_eq_true'.1 h
  simp only [Bool.and_eq_true, beq_iff_eq] at hb
  exact ⟨e, he, hb⟩
/-- Number c is i or waits for it, by way of others too. -/
def reachB (md : Region.Mode) (ops : Array Oper) (i : Nat) : Nat → Nat → Bool
  | 0, c => c == i
  | f + 1, c => c == i || match ops[c]? with
    | some o => o.after.any fun e => Region.binds md e && reachB md ops i f e.on
    | none => false
/-- All from T on wait for number c, which waits for i. -/
def gateB (md : Region.Mode) (ops : Array Oper) (T c i : Nat) : Bool := reachB md ops i 4 c && (List.range ops.size).all fun j => decide (j < T) || waitsB md ops j c
/-- Whoever has come up, those that it waits for have. -/
def Closed (md : Region.Mode) (ops : Array Oper) (listed : Array Bool) : Prop := ∀ j oj, ops[j]? = some oj → listed.getD j false = true → ∀ e ∈ oj.after, Region.binds md e = true → listed.getD e.on false = true
def closedB (md : Region.Mode) (ops : Array Oper) (listed : Array Bool) : Bool := (List.range ops.size).all fun j => !listed.getD j false || match ops[j]? with
  | some o => o.after.all fun e => !Region.binds md e || listed.getD e.on false
  | none => true
theorem closedB_spec {listed : Array Bool} (h : closedB md ops listed = true) : Closed md ops listed := fun j oj hj hl e he hb => by
  unfold closedB at h
  rw [List.all_eq_true] at h
  have h1 := h j (List.mem_range.2 (Array.getElem?_eq_some_iff.1 hj).1)
  rw [hl, hj] at h1
  simp only [Bool.not_true, Bool.false_or] at h1
  have h2 := Array.all_eq_true'.1 h1 e he
  rw [hb] at h2
  simpa using h2
theorem Closed.set {listed : Array Bool} (h : Closed md ops listed) {i : Nat} (hi : i ∈ Region.ready md ops listed) : Closed md ops (listed.setIfInBounds i true) := fun j oj hj hl e he hb => by
  obtain ⟨_, oi, hoi, hall⟩ := mem_ready.1 hi
  by_cases hij : i = j
  · subst hij
    have : oj = oi := Option.some.inj (hj.symm.trans hoi)
    subst this
    exact getD_set_true (hall e he hb)
  · rw [getD_set_ne false hij] at hl
    exact getD_set_true (h j oj hj hl e he hb)
theorem reach_unlisted {listed : Array Bool} (h : Closed md ops listed) {i : Nat} (hi : listed.getD i false = false) : ∀ (f c : Nat), reachB md ops i f c = true → listed.getD c false = false
  | 0, c, hr => by
    unfold reachB at hr
    rw [beq_iff_eq] at hr
    subst hr
    exact hi
  | f + 1, c, hr => by
    unfold reachB at hr
    rw [Bool.or_eq_true] at hr
    rcases hr with hr | hr
    · rw [beq_iff_eq] at hr
      subst hr
      exact hi
    · cases hc : ops[c]? with
      | none => rw [hc] at hr; cases hr
      | some o =>
        rw [hc] at hr
        obtain ⟨e, he, hb⟩ := Array.any_eq_true'.1 hr
        rw [Bool.and_eq_true] at hb
        have h1 := reach_unlisted h hi f e.on hb.2
        cases hl : listed.getD c false with
        | false => rfl
        | true =>
          have h2 := h c o hc hl e he hb.1
          rw [h1] at h2
          cases h2
theorem ready_waits {listed : Array Bool} {j i : Nat} (hj : j ∈ Region.ready md ops listed) (hw : waitsB md ops j i = true) : listed.getD i false = true := by
  obtain ⟨_, oj, hoj, hall⟩ := mem_ready.1 hj
  obtain ⟨e, he, hb, hon⟩ := waitsB_spec hw hoj
  rw [← hon]
  exact hall e he hb
theorem unlisted {listed : Array Bool} {i : Nat} (h : listed.getD i true = false) : listed.getD i false = false := by
  rcases Nat.lt_or_ge i listed.size with h' | h'
  · simp [h'] at h ⊢; exact h
  · simp [Array.getElem?_eq_none h'] at h

theorem wpAnyT_first {i c : Nat} {oi : Oper} {v : Value} (hi : ops[i]? = some oi) (hsel : ∀ (j : Nat) (o : Oper) cs b, ops[j]? = some o → o.op ≠ .select cs b)
    (hQ : ∀ c a w, Q (.panic c) (a.put oi.dst v) w → Q (.panic c) a w) (hg : gateB md ops T c i = true) :
    ∀ (fuel : Nat) (listed : Array Bool) (a : Act) (w : World),
      (∀ j oj, ops[j]? = some oj → j ≠ i → listed.getD j true = false → (∀ e ∈ oj.after, Region.binds md e = true → e.on ≠ i) → oi.apart ops oj = true) →
      i ∈ Region.ready md ops listed → Closed md ops listed → YieldsIf P ops S oi v a → S w →
      wpAnyT P md ops Q S T fuel (listed.setIfInBounds i true) (a.put oi.dst v) w → wpAnyT P md ops Q S T (fuel + 1) listed a w := by
  unfold gateB at hg
  rw [Bool.and_eq_true, List.all_eq_true] at hg
  obtain ⟨hg1, hg2⟩ := hg
  intro fuel
  induction fuel with
  | zero =>
    intro listed a w _ hr _ hy hS H
    refine ⟨fun h => (by rw [h] at hr; cases hr), fun j hj => ?_⟩
    by_cases hji : j = i
    · subst hji; exact hy.wpOp hi hS ⟨fun _ => hS, H⟩
    · have := ready_mono hj hji
      rw [H.1] at this
      cases this
  | succ fuel ih =>
    intro listed a w hfree hr hcu hy hS H
    refine ⟨fun h => (by rw [h] at hr; cases hr), fun j hj => ?_⟩
    by_cases hji : j = i
    · subst hji; exact hy.wpOp hi hS ⟨fun _ => hS, H⟩
    · have h1 := H.2 j (ready_mono hj hji)
      obtain ⟨hjun, oj, hoj, hall⟩ := mem_ready.1 hj
      have h0 := unlisted (mem_ready.1 hr).1
      have hnot : ∀ e ∈ oj.after, Region.binds md e = true → e.on ≠ i := fun e he hb heq => by
        have h1 := hall e he hb
        rw [heq, h0] at h1
        cases h1
      have hjT : j < T := by
        have h3 := hg2 j (List.mem_range.2 (Array.getElem?_eq_some_iff.1 hoj).1)
        rw [Bool.or_eq_true, decide_eq_true_eq] at h3
        rcases h3 with h3 | h3
        · exact h3
        · have := ready_waits hj h3
          rw [reach_unlisted hcu h0 _ _ hg1] at this
          cases this
      have h2 := wpOp_putIf hoj (hfree j oj hoj hji hjun hnot) (fun cs b => hsel i oi cs b hi) (fun cs b => hsel j oj cs b hoj) hQ hy h1
      have hfree' : ∀ k ok, ops[k]? = some ok → k ≠ i → (listed.setIfInBounds j true).getD k true = false →
          (∀ e ∈ ok.after, Region.binds md e = true → e.on ≠ i) → oi.apart ops ok = true := fun k ok hk hki hun hno => by
        refine hfree k ok hk hki ?_ hno
        by_cases hjk : j = k
        · subst hjk; exact hjun
        · rw [getD_set_ne true hjk] at hun; exact hun
      refine wpOp_mono (fun a' w' h3 => ⟨h3.2.1, ih (listed.setIfInBounds j true) a' w' hfree' (ready_mono hr (Ne.symm hji)) (hcu.set hj) h3.1 (h3.2.1 hjT) ?_⟩) h2
      rw [Array.setIfInBounds_comm _ _ hji]
      exact h3.2.2
/-- Take number i first. -/
theorem wpAnyT_take (i c : Nat) {oi : Oper} {v : Value} {fuel : Nat} {listed : Array Bool} {a : Act} {w : World} (hi : ops[i]? = some oi) (hgd : oi.guard = none)
    (hs : Region.noSelect ops = true) (hf : Region.free md ops listed i = true) (hr : (Region.ready md ops listed).contains i = true) (hg : gateB md ops T c i = true) (hcu : closedB md ops listed = true)
    (hQ : ∀ c a w, Q (.panic c) (a.put oi.dst v) w → Q (.panic c) a w) (hy : ∀ w, S w → (execOp a.eval oi).run P w = .ok (.value v) w) (hS : S w)
    (h : wpAnyT P md ops Q S T fuel (listed.setIfInBounds i true) (a.put oi.dst v) w) : wpAnyT P md ops Q S T (fuel + 1) listed a w :=
  wpAnyT_first hi (Region.noSelect_spec hs) hQ hg fuel listed a w (Region.free_spec hi hf) (by simpa using hr) (closedB_spec hcu) (.inl ⟨by simp [Region.wanted, hgd], hy⟩) hS h
/-- One of those that may come up is carried out. -/
theorem opT {i : Nat} {o : Oper} {K : Act → World → Prop} {a : Act} {w w' : World} {v : Value} (ho : ops[i]? = some o) (hgd : o.guard = none) (hrun : (execOp a.eval o).run P w = .ok (.value v) w') (h : K (a.put o.dst v) w') : wpOp P ops Q i K a w := by
  unfold wpOp
  simp only [ho]
  rw [if_pos (by simp [Region.wanted, hgd])]
  refine .inl ?_
  unfold Oper.wp
  rw [hrun]
  exact h
theorem opT_skip {i : Nat} {o : Oper} {K : Act → World → Prop} {a : Act} {w w' : World} (ho : ops[i]? = some o) (hgd : o.guard = none) (hd : o.dst = none) (hrun : (execOp a.eval o).run P w = .ok .skip w') (h : K a w') : wpOp P ops Q i K a w := by
  unfold wpOp
  simp only [ho]
  rw [if_pos (by simp [Region.wanted, hgd])]
  refine .inl ?_
  unfold Oper.wp
  rw [hrun]
  show K (a.put o.dst undef) w'
  rw [hd]
  exact h
theorem wpAnyT_one (i : Nat) {fuel : Nat} {listed : Array Bool} {a : Act} {w : World} (hr : Region.ready md ops listed = [i])
    (h : wpOp P ops Q i (fun a' w' => (i < T → S w') ∧ wpAnyT P md ops Q S T fuel (listed.setIfInBounds i true) a' w') a w) : wpAnyT P md ops Q S T (fuel + 1) listed a w :=
  ⟨fun h0 => (by rw [hr] at h0; cases h0), fun j hj => (by rw [hr] at hj; simp at hj; subst hj; exact h)⟩
theorem wpAnyT_two (i k : Nat) {fuel : Nat} {listed : Array Bool} {a : Act} {w : World} (hr : Region.ready md ops listed = [i, k])
    (h : wpOp P ops Q i (fun a' w' => (i < T → S w') ∧ wpAnyT P md ops Q S T fuel (listed.setIfInBounds i true) a' w') a w)
    (h' : wpOp P ops Q k (fun a' w' => (k < T → S w') ∧ wpAnyT P md ops Q S T fuel (listed.setIfInBounds k true) a' w') a w) : wpAnyT P md ops Q S T (fuel + 1) listed a w := by
  refine ⟨fun h0 => (by rw [hr] at h0; cases h0), fun j hj => ?_⟩
  rw [hr] at hj
  simp at hj
  rcases hj with rfl | rfl
  · exact h
  · exact h'
theorem wpAnyT_done {listed : Array Bool} {a : Act} {w : World} (hr : Region.ready md ops listed = []) (h : Q .normal a w) : wpAnyT P md ops Q S T 0 listed a w := ⟨hr, h⟩
theorem wp_region_T {id : Nat} {a : Act} {w : World} (hm : P.follows .mixedOrders = true) (h : wpAnyT P .any ops Q S T ops.size (Array.replicate ops.size false) a w.drew) : (Code.region id ops true).wp P Q a w :=
  wp_region_any hm (wpAny_of_T _ _ _ _ h)
end

/-- A region of a body. -/
def findR (k : Nat) : Code → Option (Array Oper)
  | .region n o _ => match n == k with
    | true => some o
    | false => none
  | .loop c => findR k c
  | .seq a b => match findR k a with
    | some o => some o
    | none => findR k b
  | .block _ c => findR k c
  | .scope c => findR k c
  | .cond _ a b => match findR k a with
    | some o => some o
    | none => findR k b
  | _ => none

theorem ev_same {a : Act} {d : Nat} {v : Value} (h : d < a.tmps.size) : (a.put (some d) v).eval (.tmp d) = v := by
  show ((a.tmps.setIfInBounds d v).getD d undef) = v
  simp [h]
theorem ev_ne {a : Act} {d e : Nat} {v : Value} (h : d ≠ e) : (a.put (some d) v).eval (.tmp e) = a.eval (.tmp e) := by
  show ((a.tmps.setIfInBounds d v).getD e undef) = a.tmps.getD e undef
  rw [Array.getD_eq_getD_getElem?, Array.getD_eq_getD_getElem?, Array.getElem?_setIfInBounds_ne h]
theorem put_sz {a : Act} {d : Nat} {v : Value} : (a.put (some d) v).tmps.size = a.tmps.size := by
  show (a.tmps.setIfInBounds d v).size = _
  simp
theorem pc {a : Act} {d e : Nat} {u v : Value} (h : d ≠ e) : (a.put (some d) u).put (some e) v = (a.put (some e) v).put (some d) u := by
  show Act.mk ((a.tmps.setIfInBounds d u).setIfInBounds e v) _ = Act.mk ((a.tmps.setIfInBounds e v).setIfInBounds d u) _
  rw [Array.setIfInBounds_comm _ _ h]
  rfl

/-- An append, run. -/
theorem run_app {P : Program} {o : Oper} {a : Act} {s x : Operand} {t1 t2 : TypeId} {v u v' : Value} {w w' : World} (ho : o.op = .call { callee := .builtin .append, args := #[s, x], argTypes := #[t1, t2] }) (hs : a.eval s = v) (hx : a.eval x = u)
    (hr : (Builtin.append_ #[t1, t2] o.type #[v, u]).run P w = .ok v' w') : (execOp a.eval o).run P w = .ok (.value v') w' := by
  unfold execOp
  simp only [ho, resolve, invoke, builtin, Sem.run_bind, Sem.run_pure, Result.andThen_ok, List.map_toArray, List.map_cons, List.map_nil, hs, hx, hr]

/-- One element more behind a row of the call's own; the element lies in a block of its own. -/
theorem app_at {t ty e : TypeId} {z : Value} {size bytes : Nat} (ht : Tryd.prog.underlying t = some (.slice e)) (hinf : (Tryd.prog.info? e).map (fun i => (i.zero, i.size, i.bytes)) = some (some z, size, bytes)) (hzs : z.cells.size = size) (hsz : 0 < size) (hby : bytes ≤ 1000)
    {N : Nat} {v : Value} {n : Nat} {xs : List Value} {w : World} (hown : w.ownsRow N e size v n xs) {p : Nat} {cs : Array Value} {fz : Nat × Nat} (hb : w.heap[p]? = some (.cells cs e fz)) (hcs : cs.size = size) (h1 : ∀ u ∈ cs.toList, u.oneCell' = true) (hn : n < 1000) (hN : N ≤ w.heap.size) :
    ∃ g cap w', (Builtin.append_ #[t, t] ty #[v, .slice (some ⟨p, 0, none⟩) 1 1]).run Tryd.prog w = .ok (.slice (some ⟨g, 0, none⟩) (n + 1) cap) w' ∧
      w'.ownsRow N e size (.slice (some ⟨g, 0, none⟩) (n + 1) cap) (n + 1) (xs ++ cs.toList) ∧ w.grownBy w' v.ownBlock ∧ (v.ownBlock = some g ∨ g = w.heap.size) ∧ g < w'.heap.size := by
  obtain ⟨i, hi, hz, hz1, hz2⟩ := info_parts hinf
  exact run_append_lies w t ty N e i z size bytes ht hi hz hz1 hz2 hzs hsz v n xs hown ⟨p, 0, none⟩ 1 1 cs.toList (by simp [hcs]) (World.news_of_block hb) h1 (by omega) (by unfold maxLen; omega) (by have := Nat.mul_le_mul (show n + 1 ≤ 1000 by omega) hby; omega) hN _ rfl

/-- Two rows that were appended to, one behind the other. -/
def AppP (N : Nat) (wc : World) (eA eB : TypeId) (kA kB : Nat) (va vb : Value) (n : Nat) (xs ys csA csB : List Value) (v1 v2 : Value) (w2 : World) : Prop :=
  ∃ wa w1 wb g1 c1 g2 c2, v1 = .slice (some ⟨g1, 0, none⟩) (n + 1) c1 ∧ v2 = .slice (some ⟨g2, 0, none⟩) (n + 1) c2 ∧
    Below wc.heap.size wc wa ∧ wa.grownBy w1 va.ownBlock ∧ w1.ownsRow N eA kA v1 (n + 1) (xs ++ csA) ∧ (va.ownBlock = some g1 ∨ wc.heap.size ≤ g1) ∧
    Below w1.heap.size w1 wb ∧ wb.grownBy w2 vb.ownBlock ∧ w2.ownsRow N eB kB v2 (n + 1) (ys ++ csB) ∧ (vb.ownBlock = some g2 ∨ w1.heap.size ≤ g2)
theorem blk_grown {w w' : World} {v : Value} {N : Nat} {e : TypeId} {k n : Nat} {xs : List Value} (hg : w.grownBy w' v.ownBlock) {wc : World} (ho : wc.ownsRow N e k v n xs) {b : Nat} {o : Obj} (hb : wc.heap.size ≤ b) (hh : w.heap[b]? = some o) : w'.heap[b]? = some o :=
  (hg.block b (lt_heap hh) (fun e => by have := (ho.lt b e.symm).2; omega)).trans hh
theorem blk_far {w w' : World} {v : Value} {N : Nat} {e : TypeId} {k n : Nat} {xs : List Value} (hg : w.grownBy w' v.ownBlock) {wc : World} (ho : wc.ownsRow N e k v n xs) {b : Nat} {o : Obj} (hb : b < N) (hh : w.heap[b]? = some o) : w'.heap[b]? = some o :=
  (hg.block b (lt_heap hh) (fun e => by have := (ho.lt b e.symm).1; omega)).trans hh
end Go.Proofs.YtlfgndhdifpngaaDoor
