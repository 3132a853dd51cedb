/- Properties read one behind the other: the program's Get. -/
import Derived.Test.YtmommbhhffhdgaaDoorPrGetOne
namespace Go.Proofs.YtmommbhhffhdgaaDoor
open Go.RowKit

namespace PR
theorem getG_nn (s : ByteArray) (k : Nat) : ∀ (u i : Nat) (n : Int), 0 ≤ n → 0 ≤ (VP.getG s k u i n).1
  | 0, i, n, _ => by rw [VP.getG_0]; exact Int.le_refl 0
  | u + 1, i, n, h => by
    unfold VP.getG
    have hp : ∀ a : Int, 0 ≤ a → 0 ≤ a * 128 ^ i := fun a ha => Int.mul_nonneg ha (Int.pow_nonneg (by decide))
    by_cases hs : k + i < s.size
    · rw [dif_pos hs]
      by_cases hlt : ((s[k + i]'hs).toNat : Int) < 128
      · rw [if_pos hlt]
        split
        · have := hp (s[k + i]'hs).toNat (by omega); simp only; omega
        · exact Int.le_refl 0
      · rw [if_neg hlt]
        have := hp (((s[k + i]'hs).toNat : Int) - 128) (by omega)
        exact getG_nn s k u (i + 1) _ (by omega)
    · rw [dif_neg hs]; exact Int.le_refl 0
theorem get_nn (s : ByteArray) (at_ : Int) : 0 ≤ (VP.get s at_).1 := by
  unfold VP.get
  split
  · exact Int.le_refl 0
  · exact getG_nn s _ 4 0 0 (Int.le_refl 0)
theorem get_at (s : ByteArray) (at_ : Int) (h : (VP.get s at_).2.2 = 0) : ∃ m f : Nat, VP.get s at_ = ((m : Int), (f : Int), 0) ∧ f ≤ s.size := by
  by_cases ho : at_ < 0 ∨ (s.size : Int) < at_
  · rw [VP.get_out s at_ ho] at h; exact absurd h (by decide)
  · obtain ⟨k, rfl⟩ := Int.eq_ofNat_of_zero_le (show 0 ≤ at_ by omega)
    obtain ⟨q, h1, _, h3⟩ := get_ok s k h
    have h0 := get_nn s k
    exact ⟨(VP.get s k).1.toNat, q, Prod.ext (by simp only; omega) (Prod.ext h1 h), h3⟩
theorem gl_end (U : ByteArray) (u : Nat) (p : Int) (out : List Pr) (h : ¬ p < (U.size : Int)) : gl U (u + 1) p out = (out, 0) := by rw [gl, if_pos h]
theorem gl_bad (U : ByteArray) (u : Nat) (p : Int) (out : List Pr) (h : p < (U.size : Int)) {P : Pr} {t c : Int} (hg : g1 U p out = (P, t, c)) (hc : c ≠ 0) : gl U (u + 1) p out = ([], c) := by rw [gl, if_neg (by simpa using h), hg, if_pos hc]
theorem gl_go (U : ByteArray) (u : Nat) (p : Int) (out : List Pr) (h : p < (U.size : Int)) {P : Pr} {t : Int} (hg : g1 U p out = (P, t, 0)) : gl U (u + 1) p out = gl U u t (out ++ [P]) := by rw [gl, if_neg (by simpa using h), hg, if_neg (by simp)]
theorem getL_bad (s : ByteArray) (at_ : Int) (h : (VP.get s at_).2.2 ≠ 0) : getL s at_ = ([], 0, (VP.get s at_).2.2) := by unfold getL; rw [if_pos h]
theorem getL_few (s : ByteArray) (at_ : Int) (m f : Nat) (h : VP.get s at_ = ((m : Int), (f : Int), 0)) (hl : (s.size : Int) - f < m) : getL s at_ = ([], 0, 242) := by unfold getL; rw [h, if_neg (by simp), if_pos hl]
theorem getL_in (s : ByteArray) (at_ : Int) (m f : Nat) (h : VP.get s at_ = ((m : Int), (f : Int), 0)) (hl : ¬ (s.size : Int) - f < m) {x : List Pr × Int} (hx : gl (s.extract f (f + m)) 66 0 [] = x) : getL s at_ = if x.2 ≠ 0 then ([], 0, x.2) else (x.1, (f : Int) + m, 0) := by
  unfold getL
  rw [h, if_neg (by simp), if_neg hl]
  have e1 : ((f : Int)).toNat = f := by omega
  have e2 : ((f : Int) + (m : Int)).toNat = f + m := by omega
  simp only [e1, e2, hx]
end PR

/-- What Get answers. -/
def GetP (k : IntKind) (t : TypeId) (w : World) (x : List Pr × Int × Int) (e : Ending) (w' : World) : Prop :=
  ∃ v, e = .returned (.tuple #[v, .int .i64 x.2.1, .int k x.2.2]) ∧ w'.ownsRow w.heap.size t 4 v x.1.length (flatP x.1) ∧ Below w.heap.size w w'
theorem GetP.mk {k : IntKind} {t : TypeId} {w w' : World} {x : List Pr × Int × Int} {l : List Pr} {v : Value} {a c : Int} (h : x = (l, a, c)) (ho : w'.ownsRow w.heap.size t 4 v l.length (flatP l)) (hb : Below w.heap.size w w') : GetP k t w x (.returned (.tuple #[v, .int .i64 a, .int k c])) w' := by
  subst h; exact ⟨v, rfl, ho, hb⟩
def slLen : Value → Nat | .slice _ n _ => n | _ => 0
theorem prInfo : (Tryd.prog.info? 39).map (fun i => (i.zero, i.size, i.bytes)) = some (some (.agg #[.int .i64 0, .int .i64 0, .string ⟨#[]⟩, .string ⟨#[]⟩]), 4, 48) := by kernel_rfl
theorem str_upto (s : ByteArray) (f m : Nat) (h : f + m ≤ s.size) (w : World) :
    (Instr.slice 9 (.string s) none (some (.int .i64 ((f : Int) + (m : Int)))) none).run Tryd.prog w = .ok (.string (s.extract 0 (f + m))) w := by
  rw [run_slice_string_to_if w 9 s .i64 _ Tryd.underlying9, if_pos (by omega)]
  rw [show ((f : Int) + (m : Int)).toNat = f + m by omega]

/-- The relation of Get's loop. -/
def GetRel (w : World) (U : ByteArray) (f : Nat) (out : List Pr) (p : Nat) (lv : Value) (t : TypeId) (wr : World) : Prop :=
  PR.gl U (66 - out.length) p out = PR.gl U 66 0 [] ∧ wr.ownsRow w.heap.size t 4 lv out.length (flatP out) ∧ Below w.heap.size w wr ∧ f = f

set_option maxRecDepth 100000 in
set_option maxHeartbeats 4000000 in
theorem getall_any (s : ByteArray) (at_ : Int) (hs : s.size ≤ 140737488351232) (w : World) (hT : Tabs w) :
    Calls Tryd.prog 11 #[.string s, .int .i64 at_] w (GetP .u8 39 w (PR.getL s at_)) := by
  have hsm : s.size ≤ maxLen := by unfold maxLen; omega
  have C1 := Lib.hid (fun W => get_any s at_ hsm W)
  by_cases hc : (VP.get s at_).2.2 = 0
  · obtain ⟨m, f, hg, hf⟩ := PR.get_at s at_ hc
    clear hc
    by_cases hl : (s.size : Int) - f < m
    · have HV := Lib.hid (PR.getL_few s at_ m f hg hl)
      rw [hg] at C1
      simp only at C1
      clear hg hT
      go_enter Tryd.func11, Tryd.ntmps11
      go_wp2_with fail
      refine (C1.out _).mono ?_
      rintro e w1 ⟨rfl, rfl⟩
      go_wp2
      go_ret3
      exact GetP.mk HV.out (own_nil _ _ _ _) (Below.refl _ _)
    · have hfm : f + m ≤ s.size := by omega
      have HL : Hid (∀ x, PR.gl (s.extract f (f + m)) 66 0 [] = x → PR.getL s at_ = if x.2 ≠ 0 then ([], 0, x.2) else (x.1, (f : Int) + m, 0)) := fun x hx => PR.getL_in s at_ m f hg hl hx
      have hPart : Hid (∀ (p : Nat) out, p ≤ m → PR.g1 (s.extract 0 (f + m)) ((f : Int) + (p : Int)) out = PR.shP f (PR.g1 (s.extract f (f + m)) (p : Int) out)) := fun p out hp => by
        have := PR.g1_part (f := f) (e := f + m) (by omega) hfm p (by omega) out
        rwa [show ((f + p : Nat) : Int) = (f : Int) + (p : Int) by omega] at this
      have hok : Hid (∀ (p : Nat) out, (PR.g1 (s.extract f (f + m)) (p : Int) out).2.2 = 0 → ∃ q : Nat, (PR.g1 (s.extract f (f + m)) (p : Int) out).2.1 = q ∧ p < q ∧ q ≤ m ∧ out.length < 64) := fun p out h => by
        have := PR.g1_ok _ p out h
        rwa [show (s.extract f (f + m)).size = m by rw [ByteArray.size_extract]; omega] at this
      have hUs : Hid ((s.extract f (f + m)).size = m) := Lib.hid (by rw [ByteArray.size_extract]; omega)
      have hTs : (s.extract 0 (f + m)).size ≤ 140737488351232 := by rw [ByteArray.size_extract]; omega
      have C2 : Hid (∀ (A : Option Addr) (cap : Nat) (l : List Pr) (p : Nat) W', Below w.heap.size w W' → l.length ≤ 64 → Props W' A l → Calls Tryd.prog 25 #[.slice A l.length cap, .string (s.extract 0 (f + m)), .int .i64 ((f : Int) + (p : Int))] W' (RetP W' (PR.g1 (s.extract 0 (f + m)) ((f : Int) + (p : Int)) l))) := fun A cap l p W' hW hl' hP => gone_any A cap l _ _ hTs W' (by omega) hP (hT.below hW)
      have hsl := str_upto s f m hfm
      rw [hg] at C1
      simp only at C1
      obtain ⟨i0, hi0, hz0, hz1, hz2⟩ := info_parts prInfo
      have Hi := Lib.hid hi0; have Hz0 := Lib.hid hz0; have Hz1 := Lib.hid hz1; have Hz2 := Lib.hid hz2
      clear hg hl hT hi0 hz0 hz1 hz2 hTs
      generalize s.extract f (f + m) = U at *
      generalize s.extract 0 (f + m) = T at *
      generalize PR.getL s at_ = GL at *
      go_enter Tryd.func11, Tryd.ntmps11
      go_wp2_with fail
      refine (C1.out _).mono ?_
      rintro e w1 ⟨rfl, rfl⟩
      clear C1
      go_wp2
      go_loopw [1, 10] (fun a lv wr => ∃ (p : Nat) (out : List Pr), a = .int .i64 ((f : Int) + (p : Int)) ∧ p ≤ m ∧ out.length ≤ 64 ∧ (∃ A cap, lv = .slice A out.length cap) ∧ Hid (GetRel w U f out p lv 39 wr)) (fun _ lv _ => 66 - slLen lv)
      case atStart => exact ⟨0, [], by simp, by omega, by simp, ⟨none, 0, rfl⟩, Lib.hid ⟨rfl, own_nil _ _ _ _, Below.refl _ _, rfl⟩⟩
      case round =>
        obtain ⟨p, out, rfl, hp, hol, ⟨A, cap, rfl⟩, hrl⟩ := hrel
        obtain ⟨hgl, hown, hb, _⟩ := hrl.out
        have Hgl := Lib.hid hgl
        have Hown := Lib.hid hown
        have Hb := Lib.hid hb
        have hsr := hb.size
        by_cases hlt : p < m
        · have hal := (Below.refl wr.heap.size wr).alloc (Nat.le_refl _) (.cells #[.int .i64 0, .int .i64 0, .string ⟨#[]⟩, .string ⟨#[]⟩] 39)
          have C := C2.out A cap out p (wr.alloc (.cells #[.int .i64 0, .int .i64 0, .string ⟨#[]⟩, .string ⟨#[]⟩] 39)) (hb.trans (hal.mono hsr)) hol ((own_props hown).below hal)
          rw [hPart.out p out (by omega)] at C
          have h11 : (wr.alloc (.cells #[.int .i64 0, .int .i64 0, .string ⟨#[]⟩, .string ⟨#[]⟩] 39)).heap[wr.heap.size]? = some (.cells #[.int .i64 0, .int .i64 0, .string ⟨#[]⟩, .string ⟨#[]⟩] 39 (0, 0)) := heap_alloc_new wr _
          have hkq := hok.out p out
          have hpU : (p : Int) < (U.size : Int) := by rw [hUs.out]; omega
          obtain ⟨u, hu⟩ : ∃ u, 66 - out.length = u + 1 := ⟨65 - out.length, by omega⟩
          obtain ⟨⟨⟨a, b, x, y⟩, t, c⟩, hG⟩ : ∃ D, PR.g1 U (p : Int) out = D := ⟨_, rfl⟩
          rw [hG] at C hkq
          unfold RetP PR.shP at C
          simp only at C hkq
          have j1 : (f : Int) + (p : Int) < (f : Int) + (m : Int) := by omega
          have hv1 : wr.heap.size + 1 ≤ (wr.alloc (.cells #[.int .i64 0, .int .i64 0, .string ⟨#[]⟩, .string ⟨#[]⟩] 39)).heap.size := by simp
          have H11 := Lib.hid h11
          have Hal := Lib.hid hal
          by_cases hc0 : c = 0
          · subst hc0
            obtain ⟨q, rfl, hq1, hq2, hq3⟩ := hkq rfl
            simp only [if_true] at C
            have HC := Lib.hid C
            have HG : Hid (PR.gl U (66 - (out ++ [(⟨a, b, x, y⟩ : Pr)]).length) q (out ++ [(⟨a, b, x, y⟩ : Pr)]) = PR.gl U 66 0 []) := Lib.hid (by
              have h1 := PR.gl_go U u p out hpU hG
              rw [← hu, hgl] at h1
              rw [h1, List.length_append, List.length_singleton, Nat.sub_add_eq, hu, Nat.add_sub_cancel])
            clear hgl hown hb hrl C h11 hal hkq hG hu hpU
            go_wp2_with fail
            refine HC.out.mono ?_
            rintro e w2 ⟨rfl, b2⟩
            have b11 : w2.heap[wr.heap.size]? = some (.cells #[.int .i64 0, .int .i64 0, .string ⟨#[]⟩, .string ⟨#[]⟩] 39 (0, 0)) := (b2.block _ (by omega)).trans H11.out
            have z0 : w2.cell? ⟨wr.heap.size, 0, none⟩ = some (.int .i64 0) := by rw [cell_heap b11]; rfl
            have z1 : w2.cell? ⟨wr.heap.size, 1, none⟩ = some (.int .i64 0) := by rw [cell_heap b11]; rfl
            have z2 : w2.cell? ⟨wr.heap.size, 2, none⟩ = some (.string ⟨#[]⟩) := by rw [cell_heap b11]; rfl
            have z3 : w2.cell? ⟨wr.heap.size, 3, none⟩ = some (.string ⟨#[]⟩) := by rw [cell_heap b11]; rfl
            have f0 : w2.frozen? ⟨wr.heap.size, 0, none⟩ = false := frozen_heap b11
            have f1 : w2.frozen? ⟨wr.heap.size, 1, none⟩ = false := frozen_heap b11
            have f2 : w2.frozen? ⟨wr.heap.size, 2, none⟩ = false := frozen_heap b11
            have f3 : w2.frozen? ⟨wr.heap.size, 3, none⟩ = false := frozen_heap b11
            have hs2 : wr.heap.size + 1 ≤ w2.heap.size := by have := b2.size; omega
            have hB2 : Below wr.heap.size wr w2 := Hal.out.trans (b2.mono (by omega))
            have hB3 := (((hB2.setCell (p := ⟨wr.heap.size, 0, none⟩) (Nat.le_refl _) (.int .i64 a)).setCell (p := ⟨wr.heap.size, 1, none⟩) (Nat.le_refl _) (.int .i64 b)).setCell (p := ⟨wr.heap.size, 2, none⟩) (Nat.le_refl _) (.string x)).setCell (p := ⟨wr.heap.size, 3, none⟩) (Nat.le_refl _) (.string y)
            obtain ⟨v5, w5, hr5, hown5, _, hb5⟩ := app1 Tryd.underlying23 Hi.out Hz0.out Hz1.out Hz2.out rfl (by omega) (by omega) w.heap.size (.slice A out.length cap) out.length _ _ (own_below Hown.out hB3) (by simp [World.setCell]; omega) #[.int .i64 a, .int .i64 b, .string x, .string y] rfl (by simp [Value.oneCell']) (by omega)
            rw [show ((((w2.setCell ⟨wr.heap.size, 0, none⟩ (.int .i64 a)).setCell ⟨wr.heap.size, 1, none⟩ (.int .i64 b)).setCell ⟨wr.heap.size, 2, none⟩ (.string x)).setCell ⟨wr.heap.size, 3, none⟩ (.string y)).heap.size = w2.heap.size by simp [World.setCell]] at hr5
            have HN : Hid (GetRel w U f (out ++ [(⟨a, b, x, y⟩ : Pr)]) q v5 39 w5) := ⟨HG.out, by rw [flatP_snoc]; simpa using hown5, (Hb.out.trans (hB3.mono hsr)).trans hb5, rfl⟩
            obtain ⟨A5, c5, hv5⟩ := own_form hown5
            subst hv5
            clear b2 b11 hB2 hB3 hown5 hb5 HC
            go_wp2_with (at_builtin; refine wpList_run (by rfl) (.tmp 47) (.tmp 49) _ _ (by rfl) (by rfl) (by rfl) hr5 ?_; clear hr5)
            go_roundw
            case rel => exact ⟨q, out ++ [(⟨a, b, x, y⟩ : Pr)], rfl, by omega, by simp; omega, ⟨A5, c5, by simp⟩, HN⟩
            case measure => simp [slLen]; omega
          · have hne : (c != 0) = true := by rw [bne_iff_ne]; exact hc0
            simp only [if_neg hc0] at C
            have HC := Lib.hid C
            have HV : Hid (GL = ([], 0, c)) := Lib.hid (by
              have h1 := PR.gl_bad U u p out hpU hG hc0
              rw [← hu, hgl] at h1
              have h2 := HL.out _ h1
              rw [if_pos hc0] at h2
              exact h2)
            clear hgl hown hb hrl C h11 hal hkq hG hu hpU hc0
            go_wp2_with fail
            refine HC.out.mono ?_
            rintro e w2 ⟨rfl, b2⟩
            have b11 : w2.heap[wr.heap.size]? = some (.cells #[.int .i64 0, .int .i64 0, .string ⟨#[]⟩, .string ⟨#[]⟩] 39 (0, 0)) := (b2.block _ (by omega)).trans H11.out
            have z0 : w2.cell? ⟨wr.heap.size, 0, none⟩ = some (.int .i64 0) := by rw [cell_heap b11]; rfl
            have z1 : w2.cell? ⟨wr.heap.size, 1, none⟩ = some (.int .i64 0) := by rw [cell_heap b11]; rfl
            have z2 : w2.cell? ⟨wr.heap.size, 2, none⟩ = some (.string ⟨#[]⟩) := by rw [cell_heap b11]; rfl
            have z3 : w2.cell? ⟨wr.heap.size, 3, none⟩ = some (.string ⟨#[]⟩) := by rw [cell_heap b11]; rfl
            have f0 : w2.frozen? ⟨wr.heap.size, 0, none⟩ = false := frozen_heap b11
            have f1 : w2.frozen? ⟨wr.heap.size, 1, none⟩ = false := frozen_heap b11
            have f2 : w2.frozen? ⟨wr.heap.size, 2, none⟩ = false := frozen_heap b11
            have f3 : w2.frozen? ⟨wr.heap.size, 3, none⟩ = false := frozen_heap b11
            have hB2 : Hid (Below wr.heap.size wr w2) := Hal.out.trans (b2.mono (by omega))
            clear b2 b11 HC
            go_wp2
            go_ret3
            refine GetP.mk HV.out (own_nil _ _ _ _) (Hb.out.trans (Below.mono (B := wr.heap.size) ?_ hsr))
            (repeat (refine Below.setCell ?_ (by first | (simp; done) | (simp; omega) | omega) _)); exact hB2.out
        · have hpm : p = m := by omega
          subst hpm
          obtain ⟨u, hu⟩ : ∃ u, 66 - out.length = u + 1 := ⟨65 - out.length, by omega⟩
          have HV : Hid (GL = (out, (f : Int) + (p : Int), 0)) := Lib.hid (by
            have h1 := PR.gl_end U u p out (by rw [hUs.out]; omega)
            rw [← hu, hgl] at h1
            have h2 := HL.out _ h1
            simpa using h2)
          clear hgl hown hb hrl hu hlt
          go_wp2
          go_ret3
          exact GetP.mk HV.out Hown.out Hb.out
  · have HV := Lib.hid (PR.getL_bad s at_ hc)
    generalize VP.get s at_ = R at *
    obtain ⟨a, t, c⟩ := R
    simp only at C1 hc HV
    have hne : (c != 0) = true := by rw [bne_iff_ne]; exact hc
    clear hc hT
    go_enter Tryd.func11, Tryd.ntmps11
    go_wp2_with fail
    refine (C1.out _).mono ?_
    rintro e w1 ⟨rfl, rfl⟩
    go_wp2
    go_ret3
    exact GetP.mk HV.out (own_nil _ _ _ _) (Below.refl _ _)
end Go.Proofs.YtmommbhhffhdgaaDoor
