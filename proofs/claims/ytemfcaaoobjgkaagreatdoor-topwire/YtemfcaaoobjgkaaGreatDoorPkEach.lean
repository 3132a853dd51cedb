/- The writer's lists. -/
import Derived.Test.YtemfcaaoobjgkaaGreatDoorPkConn
namespace Go.Proofs.YtemfcaaoobjgkaaGreatDoor
open Go.RowKit

theorem fold_snoc {α β : Type} (f : β → α → β) (o : β) (l : List α) (k : Nat) (x : α) (h : l[k]? = some x) : (l.take (k + 1)).foldl f o = f ((l.take k).foldl f o) x := by
  obtain ⟨hk, he⟩ := List.getElem?_eq_some_iff.1 h
  rw [List.take_succ_eq_append_getElem hk, he, List.foldl_append]
  rfl

set_option maxRecDepth 100000 in
set_option maxHeartbeats 4000000 in
theorem weachs_any (b N : Nat) (o : ByteArray × Int) (A : Option Addr) (cap : Nat) (l : List Sb) (w : World) (h : WO b N o w) (hN : N ≤ 500) (hr : ∀ W, Below b w W → Subs W A l) (hf : l.length ≤ 100 ∧ ∀ s ∈ l, SbFine s) (hT : ∀ W, Below b w W → Tabs W) :
    Calls Tryz.prog 53 #[.pointer (some ⟨b, 0, none⟩), .slice A l.length cap, .func (.func 54) #[.pointer (some ⟨b, 0, none⟩)] #[]] w (WP b (N + 200) (PK.eachO o l PK.sub) w) := by
  have hll := hf.1
  have C1 : Hid (∀ c, 0 ≤ c ∧ c ≤ 255 → Calls Tryz.prog 45 #[.pointer (some ⟨b, 0, none⟩), .int .u8 c] w (WP b N (PK.rf o c) w)) := fun c hc => wrefuse_any b N o c w h (by omega) hc
  have E : Hid (PK.eachO o l PK.sub = if l.length = 0 then PK.rf o 130 else if 64 < l.length then PK.rf o 149 else l.foldl PK.sub o) := rfl
  by_cases h0 : l.length = 0
  · have i0 : ((l.length : Int) == 0) = true := by rw [h0]; rfl
    have E1 : Hid (PK.eachO o l PK.sub = PK.rf o 130) := Lib.hid (by rw [E.out, if_pos h0])
    have D1 := Lib.hid (C1.out 130 (by decide))
    generalize PK.eachO o l PK.sub = oe at *
    clear h hr hf hT h0 C1 E
    go_enter Tryz.func53, Tryz.ntmps53
    go_wp2_with fail
    refine D1.out.mono ?_
    rintro e w1 ⟨rfl, hw, hk⟩
    have H1 := Lib.hid hw
    have K1 := Lib.hid hk
    clear hw hk D1
    go_wp2
    go_end0
    exact ⟨rfl, by rw [E1.out]; exact H1.out.mono (by omega), K1.out⟩
  · have i0 : ((l.length : Int) == 0) = false := by rw [beq_eq_false_iff_ne]; omega
    by_cases h64 : 64 < l.length
    · have i1 : (64 : Int) < (l.length : Int) := by omega
      have E1 : Hid (PK.eachO o l PK.sub = PK.rf o 149) := Lib.hid (by rw [E.out, if_neg h0, if_pos h64])
      have D1 := Lib.hid (C1.out 149 (by decide))
      generalize PK.eachO o l PK.sub = oe at *
      clear h hr hf hT h0 C1 E h64
      go_enter Tryz.func53, Tryz.ntmps53
      go_wp2_with fail
      refine D1.out.mono ?_
      rintro e w1 ⟨rfl, hw, hk⟩
      have H1 := Lib.hid hw
      have K1 := Lib.hid hk
      clear hw hk D1
      go_wp2
      go_end0
      exact ⟨rfl, by rw [E1.out]; exact H1.out.mono (by omega), K1.out⟩
    · have i1 : ¬ (64 : Int) < (l.length : Int) := by omega
      have hl64 : l.length ≤ 64 := by omega
      have E1 : Hid (PK.eachO o l PK.sub = l.foldl PK.sub o) := Lib.hid (by rw [E.out, if_neg h0, if_neg h64])
      have HR := Lib.hid hr
      have HF := Lib.hid hf.2
      have HT := Lib.hid hT
      have H0 := Lib.hid h
      generalize PK.eachO o l PK.sub = oe at *
      clear h hr hf hT h0 C1 E h64
      go_enter Tryz.func53, Tryz.ntmps53
      go_wp2_with fail
      go_loopw [10] (fun i wr => ∃ k : Nat, i = .int .i64 k ∧ k ≤ l.length ∧ Hid (WO b (N + 2 * k) ((l.take k).foldl PK.sub o) wr) ∧ Hid (Kp b w wr)) (fun i _ => l.length - (intOf i).toNat)
      case atStart => exact ⟨0, rfl, by omega, H0, Lib.hid (Kp.refl _ _)⟩
      case round =>
        obtain ⟨k, rfl, hk, hwo, hkp⟩ := hrel
        by_cases hlt : k < l.length
        · obtain ⟨x, hx⟩ : ∃ x, l[k]? = some x := ⟨l[k], List.getElem?_eq_getElem hlt⟩
          obtain ⟨g, oo, rfl, hg, q0, q1, q2, q3, q4⟩ := HR.out wr hkp.out.1 k x hx
          have hal := (Below.refl wr.heap.size wr).alloc (Nat.le_refl _) (.cells #[.string x.f, .int .i64 x.q, .bool x.nl, .bool x.ap, .int .i64 x.h] 61)
          have kal : Kp b wr (wr.alloc (.cells #[.string x.f, .int .i64 x.q, .bool x.nl, .bool x.ap, .int .i64 x.h] 61)) := Kp.of_below (Nat.le_of_lt hwo.out.lt) hal
          have C2 := Lib.hid (wsub_any b (N + 2 * k) ((l.take k).foldl PK.sub o) x _ (hwo.out.below hal) (by omega) (HF.out x (List.mem_of_getElem? hx)) (fun W hW => HT.out W (hkp.out.1.trans (kal.1.trans hW))))
          have E2 := Lib.hid (fold_snoc PK.sub o l k x hx)
          have KA := Lib.hid (hkp.out.trans kal)
          have j0 : (0 : Int) ≤ (k : Int) := by omega
          have j1 : (k : Int) < (l.length : Int) := by omega
          clear hal kal hx
          go_wp2_with fail
          refine C2.out.mono ?_
          rintro e w1 ⟨rfl, hw, hk⟩
          have H1 := Lib.hid hw
          have K1 : Hid (Kp b w w1) := KA.out.trans hk
          clear hw hk C2
          go_wp2
          go_roundw
          case rel => exact ⟨k + 1, by go_num, by omega, Lib.hid (by rw [E2.out]; exact H1.out.mono (by omega)), K1⟩
          case measure => simp [intOf]; omega
        · have hkl : k = l.length := by omega
          subst hkl
          rw [List.take_length] at hwo
          go_wp2
          go_end0
          exact ⟨rfl, by rw [E1.out]; exact hwo.out.mono (by omega), hkp.out⟩

set_option maxRecDepth 100000 in
set_option maxHeartbeats 4000000 in
theorem weacht_any (b N : Nat) (o : ByteArray × Int) (A : Option Addr) (cap : Nat) (l : List ByteArray) (w : World) (h : WO b N o w) (hN : N ≤ 500) (hr : ∀ W, Below b w W → Texts W A l) (hf : l.length ≤ 100 ∧ ∀ s ∈ l, Short s) (hT : ∀ W, Below b w W → Tabs W) :
    Calls Tryz.prog 55 #[.pointer (some ⟨b, 0, none⟩), .slice A l.length cap, .func (.func 56) #[.pointer (some ⟨b, 0, none⟩)] #[]] w (WP b (N + 200) (PK.eachO o l PK.tx) w) := by
  have hll := hf.1
  have C1 : Hid (∀ c, 0 ≤ c ∧ c ≤ 255 → Calls Tryz.prog 45 #[.pointer (some ⟨b, 0, none⟩), .int .u8 c] w (WP b N (PK.rf o c) w)) := fun c hc => wrefuse_any b N o c w h (by omega) hc
  have E : Hid (PK.eachO o l PK.tx = if l.length = 0 then PK.rf o 130 else if 64 < l.length then PK.rf o 149 else l.foldl PK.tx o) := rfl
  by_cases h0 : l.length = 0
  · have i0 : ((l.length : Int) == 0) = true := by rw [h0]; rfl
    have E1 : Hid (PK.eachO o l PK.tx = PK.rf o 130) := Lib.hid (by rw [E.out, if_pos h0])
    have D1 := Lib.hid (C1.out 130 (by decide))
    generalize PK.eachO o l PK.tx = oe at *
    clear h hr hf hT h0 C1 E
    go_enter Tryz.func55, Tryz.ntmps55
    go_wp2_with fail
    refine D1.out.mono ?_
    rintro e w1 ⟨rfl, hw, hk⟩
    have H1 := Lib.hid hw
    have K1 := Lib.hid hk
    clear hw hk D1
    go_wp2
    go_end0
    exact ⟨rfl, by rw [E1.out]; exact H1.out.mono (by omega), K1.out⟩
  · have i0 : ((l.length : Int) == 0) = false := by rw [beq_eq_false_iff_ne]; omega
    by_cases h64 : 64 < l.length
    · have i1 : (64 : Int) < (l.length : Int) := by omega
      have E1 : Hid (PK.eachO o l PK.tx = PK.rf o 149) := Lib.hid (by rw [E.out, if_neg h0, if_pos h64])
      have D1 := Lib.hid (C1.out 149 (by decide))
      generalize PK.eachO o l PK.tx = oe at *
      clear h hr hf hT h0 C1 E h64
      go_enter Tryz.func55, Tryz.ntmps55
      go_wp2_with fail
      refine D1.out.mono ?_
      rintro e w1 ⟨rfl, hw, hk⟩
      have H1 := Lib.hid hw
      have K1 := Lib.hid hk
      clear hw hk D1
      go_wp2
      go_end0
      exact ⟨rfl, by rw [E1.out]; exact H1.out.mono (by omega), K1.out⟩
    · have i1 : ¬ (64 : Int) < (l.length : Int) := by omega
      have hl64 : l.length ≤ 64 := by omega
      have E1 : Hid (PK.eachO o l PK.tx = l.foldl PK.tx o) := Lib.hid (by rw [E.out, if_neg h0, if_neg h64])
      have HR := Lib.hid hr
      have HF := Lib.hid hf.2
      have HT := Lib.hid hT
      have H0 := Lib.hid h
      generalize PK.eachO o l PK.tx = oe at *
      clear h hr hf hT h0 C1 E h64
      go_enter Tryz.func55, Tryz.ntmps55
      go_wp2_with fail
      go_loopw [10] (fun i wr => ∃ k : Nat, i = .int .i64 k ∧ k ≤ l.length ∧ Hid (WO b (N + 2 * k) ((l.take k).foldl PK.tx o) wr) ∧ Hid (Kp b w wr)) (fun i _ => l.length - (intOf i).toNat)
      case atStart => exact ⟨0, rfl, by omega, H0, Lib.hid (Kp.refl _ _)⟩
      case round =>
        obtain ⟨k, rfl, hk, hwo, hkp⟩ := hrel
        by_cases hlt : k < l.length
        · obtain ⟨x, hx⟩ : ∃ x, l[k]? = some x := ⟨l[k], List.getElem?_eq_getElem hlt⟩
          obtain ⟨g, oo, rfl, hg, q0⟩ := HR.out wr hkp.out.1 k x hx
          have C2 := Lib.hid (wtext_any b (N + 2 * k) ((l.take k).foldl PK.tx o) x wr hwo.out (by omega) (HF.out x (List.mem_of_getElem? hx)) (HT.out wr hkp.out.1))
          have E2 := Lib.hid (fold_snoc PK.tx o l k x hx)
          have KA := hkp
          have j0 : (0 : Int) ≤ (k : Int) := by omega
          have j1 : (k : Int) < (l.length : Int) := by omega
          clear hx
          go_wp2_with fail
          refine C2.out.mono ?_
          rintro e w1 ⟨rfl, hw, hk⟩
          have H1 := Lib.hid hw
          have K1 : Hid (Kp b w w1) := KA.out.trans hk
          clear hw hk C2
          go_wp2
          go_roundw
          case rel => exact ⟨k + 1, by go_num, by omega, Lib.hid (by rw [E2.out]; exact H1.out.mono (by omega)), K1⟩
          case measure => simp [intOf]; omega
        · have hkl : k = l.length := by omega
          subst hkl
          rw [List.take_length] at hwo
          go_wp2
          go_end0
          exact ⟨rfl, by rw [E1.out]; exact hwo.out.mono (by omega), hkp.out⟩

set_option maxRecDepth 100000 in
set_option maxHeartbeats 4000000 in
theorem weachc_any (b N : Nat) (o : ByteArray × Int) (A : Option Addr) (cap : Nat) (l : List Int) (w : World) (h : WO b N o w) (hN : N ≤ 500) (hr : ∀ W, Below b w W → Codes W A l) (hf : l.length ≤ 100 ∧ ∀ c ∈ l, 0 ≤ c ∧ c ≤ 255) :
    Calls Tryz.prog 57 #[.pointer (some ⟨b, 0, none⟩), .slice A l.length cap, .func (.func 49) #[.pointer (some ⟨b, 0, none⟩)] #[]] w (WP b (N + 200) (PK.eachO o l (fun o c => PK.nm o 1 c)) w) := by
  have hll := hf.1
  have C1 : Hid (∀ c, 0 ≤ c ∧ c ≤ 255 → Calls Tryz.prog 45 #[.pointer (some ⟨b, 0, none⟩), .int .u8 c] w (WP b N (PK.rf o c) w)) := fun c hc => wrefuse_any b N o c w h (by omega) hc
  have E : Hid (PK.eachO o l (fun o c => PK.nm o 1 c) = if l.length = 0 then PK.rf o 130 else if 64 < l.length then PK.rf o 149 else l.foldl (fun o c => PK.nm o 1 c) o) := rfl
  by_cases h0 : l.length = 0
  · have i0 : ((l.length : Int) == 0) = true := by rw [h0]; rfl
    have E1 : Hid (PK.eachO o l (fun o c => PK.nm o 1 c) = PK.rf o 130) := Lib.hid (by rw [E.out, if_pos h0])
    have D1 := Lib.hid (C1.out 130 (by decide))
    generalize PK.eachO o l (fun o c => PK.nm o 1 c) = oe at *
    clear h hr hf h0 C1 E
    go_enter Tryz.func57, Tryz.ntmps57
    go_wp2_with fail
    refine D1.out.mono ?_
    rintro e w1 ⟨rfl, hw, hk⟩
    have H1 := Lib.hid hw
    have K1 := Lib.hid hk
    clear hw hk D1
    go_wp2
    go_end0
    exact ⟨rfl, by rw [E1.out]; exact H1.out.mono (by omega), K1.out⟩
  · have i0 : ((l.length : Int) == 0) = false := by rw [beq_eq_false_iff_ne]; omega
    by_cases h64 : 64 < l.length
    · have i1 : (64 : Int) < (l.length : Int) := by omega
      have E1 : Hid (PK.eachO o l (fun o c => PK.nm o 1 c) = PK.rf o 149) := Lib.hid (by rw [E.out, if_neg h0, if_pos h64])
      have D1 := Lib.hid (C1.out 149 (by decide))
      generalize PK.eachO o l (fun o c => PK.nm o 1 c) = oe at *
      clear h hr hf h0 C1 E h64
      go_enter Tryz.func57, Tryz.ntmps57
      go_wp2_with fail
      refine D1.out.mono ?_
      rintro e w1 ⟨rfl, hw, hk⟩
      have H1 := Lib.hid hw
      have K1 := Lib.hid hk
      clear hw hk D1
      go_wp2
      go_end0
      exact ⟨rfl, by rw [E1.out]; exact H1.out.mono (by omega), K1.out⟩
    · have i1 : ¬ (64 : Int) < (l.length : Int) := by omega
      have hl64 : l.length ≤ 64 := by omega
      have E1 : Hid (PK.eachO o l (fun o c => PK.nm o 1 c) = l.foldl (fun o c => PK.nm o 1 c) o) := Lib.hid (by rw [E.out, if_neg h0, if_neg h64])
      have HR := Lib.hid hr
      have HF := Lib.hid hf.2
      have H0 := Lib.hid h
      generalize PK.eachO o l (fun o c => PK.nm o 1 c) = oe at *
      clear h hr hf h0 C1 E h64
      go_enter Tryz.func57, Tryz.ntmps57
      go_wp2_with fail
      go_loopw [10] (fun i wr => ∃ k : Nat, i = .int .i64 k ∧ k ≤ l.length ∧ Hid (WO b (N + 2 * k) ((l.take k).foldl (fun o c => PK.nm o 1 c) o) wr) ∧ Hid (Kp b w wr)) (fun i _ => l.length - (intOf i).toNat)
      case atStart => exact ⟨0, rfl, by omega, H0, Lib.hid (Kp.refl _ _)⟩
      case round =>
        obtain ⟨k, rfl, hk, hwo, hkp⟩ := hrel
        by_cases hlt : k < l.length
        · obtain ⟨x, hx⟩ : ∃ x, l[k]? = some x := ⟨l[k], List.getElem?_eq_getElem hlt⟩
          obtain ⟨g, oo, rfl, hg, q0⟩ := HR.out wr hkp.out.1 k x hx
          have C2 := Lib.hid (wreason_any b (N + 2 * k) ((l.take k).foldl (fun o c => PK.nm o 1 c) o) x wr hwo.out (by omega) (HF.out x (List.mem_of_getElem? hx)))
          have E2 := Lib.hid (fold_snoc (fun o c => PK.nm o 1 c) o l k x hx)
          have KA := hkp
          have j0 : (0 : Int) ≤ (k : Int) := by omega
          have j1 : (k : Int) < (l.length : Int) := by omega
          clear hx
          go_wp2_with fail
          refine C2.out.mono ?_
          rintro e w1 ⟨rfl, hw, hk⟩
          have H1 := Lib.hid hw
          have K1 : Hid (Kp b w w1) := KA.out.trans hk
          clear hw hk C2
          go_wp2
          go_roundw
          case rel => exact ⟨k + 1, by go_num, by omega, Lib.hid (by rw [E2.out]; exact H1.out.mono (by omega)), K1⟩
          case measure => simp [intOf]; omega
        · have hkl : k = l.length := by omega
          subst hkl
          rw [List.take_length] at hwo
          go_wp2
          go_end0
          exact ⟨rfl, by rw [E1.out]; exact hwo.out.mono (by omega), hkp.out⟩
end Go.Proofs.YtemfcaaoobjgkaaGreatDoor
