/- The document's answers: first, CodeOf, Has at any record. -/
import Derived.Test.YteacjahncngoiaaDoorFaRep
import Derived.Test.YteacjahncngoiaaDoorFaNew
import Derived.Test.YteacjahncngoiaaDoorFaRow
namespace Go.Proofs.YteacjahncngoiaaDoor
open Go.RowKit FA

def rcode (e : E) : Nat := match ff e with | some f => cd f | none => 0
def rfound (e : E) : Bool := (ff e).isSome
theorem rcode_none {e : E} (h : ff e = none) : rcode e = 0 ∧ rfound e = false := by unfold rcode rfound; rw [h]; exact ⟨rfl, rfl⟩
theorem rcode_some {e f : E} (h : ff e = some f) : rcode e = cd f ∧ rfound e = true := by unfold rcode rfound; rw [h]; exact ⟨rfl, rfl⟩

theorem cell4 (w : World) (c0 c1 c2 c3 : Value) (t : TypeId) {w' : World} (hb : Below (w.alloc (.cells #[c0, c1, c2, c3] t)).heap.size (w.alloc (.cells #[c0, c1, c2, c3] t)) w') :
    w'.cell? ⟨w.heap.size, 0, none⟩ = some c0 ∧ w'.cell? ⟨w.heap.size, 1, none⟩ = some c1 ∧ w'.cell? ⟨w.heap.size, 2, none⟩ = some c2 ∧ w'.cell? ⟨w.heap.size, 3, none⟩ = some c3 := by
  refine ⟨?_, ?_, ?_, ?_⟩ <;>
  · rw [hb.cell (by simp), World.cell?_alloc_at _ _ _ _ rfl]; rfl

/-- A record whose kids are gone through: kind 2 or 3. -/
theorem kids_of_23 {e : E} (h : (∃ l, e = .many l) ∨ ∃ s, e = .other s) : ff e = ffL (kids e) := by
  rcases h with ⟨l, rfl⟩ | ⟨s, rfl⟩
  · rw [ff]; rfl
  · rw [ff]; rfl

set_option maxRecDepth 100000 in
set_option maxHeartbeats 4000000 in
theorem rfirst_any (B : Nat) : ∀ (n : Nat) (e : E), sz e ≤ n → n ≤ 1000000 → ∀ (x : Value) (w : World), RepR w B e x → B ≤ w.heap.size →
    Calls Tryd.prog 32 #[.agg #[.int .i64 (kind e), .int .i64 (cd e), .string (wh e), x]] w fun en w' => en = .returned (.tuple #[.int .i64 (rcode e), .bool (rfound e)]) ∧ Below w.heap.size w w'
  | 0, e, hz, _, _, _, _, _ => by have := sz_pos e; omega
  | n + 1, e, hz, hn, x, w, h, hB => by
    have hk := RepR.kids h
    obtain ⟨hlm, A, cap, rfl, hat⟩ := hk
    unfold maxLen at hlm
    by_cases hf : kind e = 1
    · have hff : ff e = some e := by cases e <;> simp_all [kind, ff]
      obtain ⟨h1, h2⟩ := rcode_some hff
      rw [h1, h2, hf]
      generalize cd e = c
      generalize wh e = s
      clear hat h1 h2 hff hf
      go_enter Tryd.func32, Tryd.ntmps32
      go_wp2
      go_ret2
      exact ⟨rfl, (Below.refl _ _).alloc (Nat.le_refl _) _⟩
    · have hke := kind_le e
      have hff : ff e = ffL (kids e) := kids_of_23 (by cases e <;> simp_all [kind])
      have hkb : ((kind e : Int) == 1) = false := by rw [beq_eq_false_iff_ne]; omega
      have hks : ∀ k ∈ kids e, sz k ≤ n := fun k hk => by have := kids_sz hk; omega
      have Hs := Lib.hid hks
      have Hff := Lib.hid hff
      have Hat := Lib.hid hat
      have IH := Lib.hid (rfirst_any B n)
      have B0 : Hid (Below w.heap.size w (w.alloc (.cells #[.int .i64 (kind e), .int .i64 (cd e), .string (wh e), .slice A (kids e).length cap] 27))) := (Below.refl _ _).alloc (Nat.le_refl _) _
      clear hks hff hat hke hf h hz
      generalize kids e = l at *
      generalize (kind e : Int) = kd at *
      generalize (cd e : Int) = c at *
      generalize wh e = s at *
      go_enter Tryd.func32, Tryd.ntmps32
      go_wp2
      go_loopw [4] (fun i wr => ∃ k : Nat, i = .int .i64 k ∧ k ≤ l.length ∧ Hid (ffL (l.drop k) = ffL l) ∧ Hid (Below (w.alloc (.cells #[.int .i64 kd, .int .i64 c, .string s, .slice A l.length cap] 27)).heap.size (w.alloc (.cells #[.int .i64 kd, .int .i64 c, .string s, .slice A l.length cap] 27)) wr))
        (fun i _ => l.length - (intOf i).toNat)
      case atStart => exact ⟨0, rfl, by omega, Lib.hid rfl, Lib.hid (Below.refl _ _)⟩
      case round =>
        obtain ⟨k, rfl, hk, hk1, hbr⟩ := hrel
        have hsr := hbr.out.size
        simp at hsr
        have hbw : Hid (Below w.heap.size w wr) := B0.out.trans (hbr.out.mono (by simp))
        obtain ⟨_, _, _, c3⟩ := cell4 _ _ _ _ _ _ hbr.out
        by_cases hlt : k < l.length
        · obtain ⟨ek, hek⟩ : ∃ ek, l[k]? = some ek := ⟨l[k], List.getElem?_eq_getElem hlt⟩
          obtain ⟨g, y, rfl, hg, ⟨r0, r1, r2, r3⟩, hy⟩ := Hat.out k ek hek
          have q0 : wr.cell? ⟨g, k * 4, none⟩ = some (.int .i64 (kind ek)) := by rw [hbw.out.cell (by simp; omega)]; exact r0
          have q1 : wr.cell? ⟨g, k * 4 + 1, none⟩ = some (.int .i64 (cd ek)) := by rw [hbw.out.cell (by simp; omega)]; exact r1
          have q2 : wr.cell? ⟨g, k * 4 + 2, none⟩ = some (.string (wh ek)) := by rw [hbw.out.cell (by simp; omega)]; exact r2
          have q3 : wr.cell? ⟨g, k * 4 + 3, none⟩ = some y := by rw [hbw.out.cell (by simp; omega)]; exact r3
          have C := Lib.hid (IH.out ek (Hs.out ek (List.mem_of_getElem? hek)) (by omega) y wr (RepR.below (hbw.out.mono hB) _ _ hy) (by omega))
          have Hek := Lib.hid hek
          clear r0 r1 r2 r3 hy hek
          go_wp2_with fail
          refine C.out.mono ?_
          rintro en w2 ⟨rfl, b2⟩
          have B2 := Lib.hid b2
          clear b2 C
          cases hfe : ff ek with
          | none =>
            obtain ⟨z1, z2⟩ := rcode_none hfe
            rw [z1, z2]
            have H1 := Lib.hid (ffL_no Hek.out hfe)
            clear z1 z2 hfe
            go_wp2
            go_roundw
            case rel => exact ⟨k + 1, by go_num, by omega, Lib.hid (H1.out.symm.trans hk1.out), Lib.hid (hbr.out.trans (B2.out.mono (by simp; omega)))⟩
            case measure => simp [intOf]; omega
          | some f =>
            obtain ⟨z1, z2⟩ := rcode_some hfe
            rw [z1, z2]
            have H1 := Lib.hid (ffL_yes Hek.out hfe)
            clear z1 z2 hfe
            go_wp2
            go_ret2
            obtain ⟨y1, y2⟩ := rcode_some (Hff.out.trans (hk1.out.symm.trans H1.out))
            exact ⟨by rw [y1, y2]; rfl, hbw.out.trans (B2.out.mono (by omega))⟩
        · have hkl : k = l.length := by omega
          subst hkl
          have H1 := Lib.hid (ffL_end l)
          go_wp2
          go_ret2
          obtain ⟨y1, y2⟩ := rcode_none (Hff.out.trans (hk1.out.symm.trans H1.out))
          exact ⟨by rw [y1, y2]; rfl, hbw.out⟩
end Go.Proofs.YteacjahncngoiaaDoor
