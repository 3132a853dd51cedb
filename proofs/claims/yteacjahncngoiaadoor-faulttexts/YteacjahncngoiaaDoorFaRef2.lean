/- The document's answers: CodeOf and Has at any record. -/
import Derived.Test.YteacjahncngoiaaDoorFaRef
import Derived.Test.YteacjahncngoiaaDoorFaCode
import Derived.Test.YteacjahncngoiaaDoorFaHas
namespace Go.Proofs.YteacjahncngoiaaDoor
open Go.RowKit FA

set_option maxHeartbeats 1000000 in
theorem rcodeOf_any (B : Nat) (x : Option E) (y : Value) (w : World) (h : RepRO w B x y) (hB : B ≤ w.heap.size) (hz : szO x ≤ 1000000) :
    Calls Tryd.prog 12 #[recO x y] w fun en w' => en = .returned (.int .i64 (codeO x)) ∧ Below w.heap.size w w' := by
  cases x with
  | none =>
    obtain rfl : y = .slice none 0 0 := h
    show Calls Tryd.prog 12 #[.agg #[.int .i64 0, .int .i64 0, .string ⟨#[]⟩, .slice none 0 0]] w fun en w' => en = .returned (.int .i64 0) ∧ Below w.heap.size w w'
    go_enter Tryd.func12, Tryd.ntmps12
    go_wp2
    go_ret
    exact ⟨rfl, (Below.refl _ _).alloc (Nat.le_refl _) _⟩
  | some e =>
    have hR : RepR w B e y := h
    show Calls Tryd.prog 12 #[.agg #[.int .i64 (kind e), .int .i64 (cd e), .string (wh e), y]] w fun en w' => en = .returned (.int .i64 (code e)) ∧ Below w.heap.size w w'
    have hbl := (Below.refl w.heap.size w).alloc (Nat.le_refl _) (.cells #[.int .i64 (kind e), .int .i64 (cd e), .string (wh e), y] 27)
    have C := Lib.hid (rfirst_any B _ e (Nat.le_refl _) hz y _ (RepR.below (hbl.mono hB) _ _ hR) (by simp; omega))
    have hk := kind_le e
    have hkb : ((kind e : Int) == 0) = false := by rw [beq_eq_false_iff_ne]; omega
    obtain ⟨_, A, cap, rfl, _⟩ := RepR.kids hR
    have Hb := Lib.hid hbl
    clear h hR hbl hk
    cases hfe : ff e with
    | none =>
      obtain ⟨z1, z2⟩ := rcode_none hfe
      have H1 : Hid (code e = 128) := Lib.hid (by unfold code; rw [hfe])
      rw [z1, z2] at C
      clear z1 z2 hfe
      generalize (kind e : Int) = kd at *
      go_enter Tryd.func12, Tryd.ntmps12
      go_wp2_with fail
      refine C.out.mono ?_
      rintro en w2 ⟨rfl, b2⟩
      have B2 := Lib.hid b2
      clear b2 C
      go_wp2
      go_ret
      exact ⟨by rw [H1.out]; rfl, Hb.out.trans (B2.out.mono (by simp))⟩
    | some f =>
      obtain ⟨z1, z2⟩ := rcode_some hfe
      have H1 : Hid (code e = cd f) := Lib.hid (by unfold code; rw [hfe])
      rw [z1, z2] at C
      clear z1 z2 hfe
      generalize (kind e : Int) = kd at *
      go_enter Tryd.func12, Tryd.ntmps12
      go_wp2_with fail
      refine C.out.mono ?_
      rintro en w2 ⟨rfl, b2⟩
      have B2 := Lib.hid b2
      clear b2 C
      go_wp2
      go_ret
      exact ⟨by rw [H1.out]; rfl, Hb.out.trans (B2.out.mono (by simp))⟩

theorem has_kids {c : Nat} {e : E} (h : ¬ (kind e = 1 ∧ cd e = c)) : has c e = hasL c (kids e) := by
  cases e with
  | leaf d s => simp [kind, cd] at h; simp [has, kids, hasL, h]
  | wrap d s k => simp [kind, cd] at h; simp [has, kids, hasL, h]
  | many l => simp [has, kids]
  | other s => simp [has, kids, hasL]
theorem has_here {c : Nat} {e : E} (h : kind e = 1 ∧ cd e = c) : has c e = true := by
  cases e with
  | leaf d s => simp [kind, cd] at h; simp [has, h]
  | wrap d s k => simp [kind, cd] at h; simp [has, h]
  | many l => simp [kind] at h
  | other s => simp [kind] at h

set_option maxRecDepth 100000 in
set_option maxHeartbeats 4000000 in
theorem rhas_any (B c : Nat) (hc : c < 256) : ∀ (n : Nat) (e : E), sz e ≤ n → n ≤ 1000000 → ∀ (x : Value) (w : World), RepR w B e x → B ≤ w.heap.size →
    Calls Tryd.prog 14 #[.agg #[.int .i64 (kind e), .int .i64 (cd e), .string (wh e), x], .int .i64 c] w fun en w' => en = .returned (.bool (has c e)) ∧ Below w.heap.size w w'
  | 0, e, hz, _, _, _, _, _ => by have := sz_pos e; omega
  | n + 1, e, hz, hn, x, w, h, hB => by
    have hk := RepR.kids h
    obtain ⟨hlm, A, cap, rfl, hat⟩ := hk
    unfold maxLen at hlm
    have hke := kind_le e
    by_cases hf : kind e = 1 ∧ cd e = c
    · have hh := has_here hf
      have hc1 : ((cd e : Int) == (c : Int)) = true := by simp [hf.2]
      rw [hh, hf.1]
      clear hat hh hf hke
      generalize (cd e : Int) = d at *
      generalize wh e = s
      go_enter Tryd.func14, Tryd.ntmps14
      go_wp2
      go_ret
      exact ⟨rfl, (Below.refl _ _).alloc (Nat.le_refl _) _⟩
    · have hff := has_kids hf
      have hks : ∀ k ∈ kids e, sz k ≤ n := fun k hk => by have := kids_sz hk; omega
      have hg1 : (((kind e : Int) == 1) = false) ∨ (((kind e : Int) == 1) = true ∧ ((cd e : Int) == (c : Int)) = false) := by
        by_cases h1 : kind e = 1
        · exact .inr ⟨by simp [h1], by rw [beq_eq_false_iff_ne]; have : ¬ cd e = c := fun h2 => hf ⟨h1, h2⟩; omega⟩
        · exact .inl (by rw [beq_eq_false_iff_ne]; omega)
      have Hs := Lib.hid hks
      have Hff := Lib.hid hff
      have Hat := Lib.hid hat
      have IH := Lib.hid (rhas_any B c hc n)
      have B0 : Hid (Below w.heap.size w (w.alloc (.cells #[.int .i64 (kind e), .int .i64 (cd e), .string (wh e), .slice A (kids e).length cap] 27))) := (Below.refl _ _).alloc (Nat.le_refl _) _
      clear hks hff hat hke hf h hz
      generalize kids e = l at *
      generalize (kind e : Int) = kd at *
      generalize (cd e : Int) = d at *
      generalize wh e = s at *
      have main : Calls Tryd.prog 14 #[.agg #[.int .i64 kd, .int .i64 d, .string s, .slice A l.length cap], .int .i64 c] w fun en w' => en = .returned (.bool (hasL c l)) ∧ Below w.heap.size w w' := by
        rcases hg1 with hk1b | ⟨hk1b, hk2b⟩ <;>
        · go_enter Tryd.func14, Tryd.ntmps14
          go_wp2
          go_loopw [5] (fun i wr => ∃ k : Nat, i = .int .i64 k ∧ k ≤ l.length ∧ Hid (hasL c (l.drop k) = hasL c l) ∧ Hid (Below (w.alloc (.cells #[.int .i64 kd, .int .i64 d, .string s, .slice A l.length cap] 27)).heap.size (w.alloc (.cells #[.int .i64 kd, .int .i64 d, .string s, .slice A l.length cap] 27)) wr))
            (fun i _ => l.length - (intOf i).toNat)
          case atStart => exact ⟨0, rfl, by omega, Lib.hid rfl, Lib.hid (Below.refl _ _)⟩
          case round =>
            obtain ⟨k, rfl, hk, hk1, hbr⟩ := hrel
            have hsr := hbr.out.size
            simp at hsr
            have hbw : Hid (Below w.heap.size w wr) := B0.out.trans (hbr.out.mono (by simp))
            obtain ⟨_, _, _, c3⟩ := cell4 _ _ _ _ _ _ hbr.out
            by_cases hlt : k < l.length
            · obtain ⟨ek, hek⟩ : ∃ ek, l[k]? = some ek := ⟨l[k], List.getElem?_eq_getElem hlt⟩
              obtain ⟨g, y, rfl, hg, ⟨r0, r1, r2, r3⟩, hy⟩ := Hat.out k ek hek
              have q0 : wr.cell? ⟨g, k * 4, none⟩ = some (.int .i64 (kind ek)) := by rw [hbw.out.cell (by simp; omega)]; exact r0
              have q1 : wr.cell? ⟨g, k * 4 + 1, none⟩ = some (.int .i64 (cd ek)) := by rw [hbw.out.cell (by simp; omega)]; exact r1
              have q2 : wr.cell? ⟨g, k * 4 + 2, none⟩ = some (.string (wh ek)) := by rw [hbw.out.cell (by simp; omega)]; exact r2
              have q3 : wr.cell? ⟨g, k * 4 + 3, none⟩ = some y := by rw [hbw.out.cell (by simp; omega)]; exact r3
              have C := IH.out ek (Hs.out ek (List.mem_of_getElem? hek)) (by omega) y wr (RepR.below (hbw.out.mono hB) _ _ hy) (by omega)
              have H1 := hasL_at (c := c) hek
              clear r0 r1 r2 r3 hy hek
              cases hfe : has c ek with
              | false =>
                rw [hfe] at C H1
                have HC := Lib.hid C
                have HH := Lib.hid H1
                clear hfe C H1
                go_wp2_with fail
                refine HC.out.mono ?_
                rintro en w2 ⟨rfl, b2⟩
                have B2 := Lib.hid b2
                clear b2 HC
                go_wp2
                go_roundw
                case rel => exact ⟨k + 1, by go_num, by omega, Lib.hid (by rw [← hk1.out, HH.out, Bool.false_or]), Lib.hid (hbr.out.trans (B2.out.mono (by simp; omega)))⟩
                case measure => simp [intOf]; omega
              | true =>
                rw [hfe] at C H1
                have HC := Lib.hid C
                have HH := Lib.hid H1
                clear hfe C H1
                go_wp2_with fail
                refine HC.out.mono ?_
                rintro en w2 ⟨rfl, b2⟩
                have B2 := Lib.hid b2
                clear b2 HC
                go_wp2
                go_ret
                exact ⟨by rw [← hk1.out, HH.out]; rfl, hbw.out.trans (B2.out.mono (by omega))⟩
            · have hkl : k = l.length := by omega
              subst hkl
              have H1 := Lib.hid (hasL_end c l)
              go_wp2
              go_ret
              exact ⟨by rw [← hk1.out, H1.out]; rfl, hbw.out⟩
      rw [Hff.out]
      exact main

theorem rhasO_any (B c : Nat) (hc : c < 256) (x : Option E) (y : Value) (w : World) (h : RepRO w B x y) (hB : B ≤ w.heap.size) (hz : szO x ≤ 1000000) :
    Calls Tryd.prog 14 #[recO x y, .int .i64 c] w fun en w' => en = .returned (.bool (hasO c x)) ∧ Below w.heap.size w w' := by
  cases x with
  | none =>
    obtain rfl : y = .slice none 0 0 := h
    show Calls Tryd.prog 14 #[.agg #[.int .i64 0, .int .i64 0, .string ⟨#[]⟩, .slice none 0 0], .int .i64 c] w fun en w' => en = .returned (.bool false) ∧ Below w.heap.size w w'
    go_enter Tryd.func14, Tryd.ntmps14
    go_wp2
    refine wp_loop_rounds 1 ?_
    rw [rounds_succ]
    go_wp2
    go_ret
    exact ⟨rfl, (Below.refl _ _).alloc (Nat.le_refl _) _⟩
  | some e => exact rhas_any B c hc _ e (Nat.le_refl _) hz y w h hB
end Go.Proofs.YteacjahncngoiaaDoor
