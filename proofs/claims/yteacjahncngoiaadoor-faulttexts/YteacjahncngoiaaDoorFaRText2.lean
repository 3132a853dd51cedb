/- The document's Text at any record. -/
import Derived.Test.YteacjahncngoiaaDoorFaRText
namespace Go.Proofs.YteacjahncngoiaaDoor
open Go.RowKit FA

def tx (e : E) : ByteArray := bs (text e)
theorem tx_list (e : E) : (tx e).data.toList = text e := bs_list _
theorem tx_size {e : E} (h : FA.Good e) : (tx e).size ≤ 60 * sz e := by rw [tx, bs_size]; have := text_len e h; omega

set_option maxRecDepth 100000 in
set_option maxHeartbeats 4000000 in
theorem rtext_any (B : Nat) : ∀ (n : Nat) (e : E), sz e ≤ n → n ≤ 100000 → FA.Good e → ∀ (x : Value) (w : World), RepR w B e x → B ≤ w.heap.size →
    Calls Tryd.prog 20 #[.agg #[.int .i64 (kind e), .int .i64 (cd e), .string (wh e), x]] w fun en w' => en = .returned (.string (tx e)) ∧ Below w.heap.size w w'
  | 0, e, hz, _, _, _, _, _, _ => by have := sz_pos e; omega
  | n + 1, .other s, hz, hn, hg, x, w, h, hB => by
    obtain rfl : x = .slice none 0 0 := h
    have ht : Hid (tx (.other s) = s) := by rw [tx, text]; exact (bs_of rfl).symm
    show Calls Tryd.prog 20 #[.agg #[.int .i64 3, .int .i64 0, .string s, .slice none 0 0]] w fun en w' => en = .returned (.string (tx (.other s))) ∧ Below w.heap.size w w'
    go_enter Tryd.func20, Tryd.ntmps20
    go_wp2
    go_ret
    exact ⟨by rw [ht.out]; rfl, (Below.refl _ _).alloc (Nat.le_refl _) _⟩
  | n + 1, .leaf c s, hz, hn, hg, x, w, h, hB => by
    obtain rfl : x = .slice none 0 0 := h
    have hc : c < 256 := hg.1
    have hs : s.size ≤ 50 := hg.2
    have hbl := (Below.refl w.heap.size w).alloc (Nat.le_refl _) (.cells #[.int .i64 1, .int .i64 c, .string s, .slice none 0 0] 27)
    have C := Lib.hid (rdec_any c hc (w.alloc (.cells #[.int .i64 1, .int .i64 c, .string s, .slice none 0 0] 27)))
    have hd : (bs (dec c)).size ≤ 3 := by rw [bs_size]; exact dec_len c
    have ht : Hid (tx (.leaf c s) = s ++ ⟨#[58, 32]⟩ ++ bs (dec c)) := by
      refine (bs_of ?_).symm
      rw [app_list, app_list, bs_list, text]
      simp
    have Hb := Lib.hid hbl
    show Calls Tryd.prog 20 #[.agg #[.int .i64 1, .int .i64 c, .string s, .slice none 0 0]] w fun en w' => en = .returned (.string (tx (.leaf c s))) ∧ Below w.heap.size w w'
    clear hbl
    generalize bs (dec c) = D at *
    go_enter Tryd.func20, Tryd.ntmps20
    go_wp2_with fail
    refine C.out.mono ?_
    rintro en w2 ⟨rfl, b2⟩
    obtain ⟨q0, q1, q2, q3⟩ := cell4 _ _ _ _ _ _ b2
    have B2 := Lib.hid b2
    clear b2 C
    go_wp2
    go_ret
    exact ⟨by rw [ht.out]; rfl, Hb.out.trans (B2.out.mono (by simp))⟩
  | n + 1, .wrap c s k, hz, hn, hg, x, w, h, hB => by
    have hs : s.size ≤ 50 := hg.2.1
    simp only [RepR] at h
    obtain ⟨g, cap, rfl, hgB, y, ⟨r0, r1, r2, r3⟩, hk⟩ := h
    have hbl := (Below.refl w.heap.size w).alloc (Nat.le_refl _) (.cells #[.int .i64 1, .int .i64 c, .string s, .slice (some ⟨g, 0, none⟩) 1 cap] 27)
    rw [sz] at hz
    have C := Lib.hid (rtext_any B n k (by omega) (by omega) hg.2.2.2 y (w.alloc (.cells #[.int .i64 1, .int .i64 c, .string s, .slice (some ⟨g, 0, none⟩) 1 cap] 27)) (RepR.below (hbl.mono hB) _ _ hk) (by simp; omega))
    have hd : (tx k).size ≤ 10000000 := by have := tx_size hg.2.2.2; omega
    have ht : Hid (tx (.wrap c s k) = s ++ ⟨#[58, 32]⟩ ++ tx k) := by
      refine (bs_of ?_).symm
      rw [app_list, app_list, tx_list, text]
      simp
    have q0 : w.cell? ⟨g, 0, none⟩ = some (.int .i64 (kind k)) := r0
    have q1 : w.cell? ⟨g, 1, none⟩ = some (.int .i64 (cd k)) := r1
    have q2 : w.cell? ⟨g, 2, none⟩ = some (.string (wh k)) := r2
    have q3 : w.cell? ⟨g, 3, none⟩ = some y := r3
    have hgl : g < w.heap.size := by omega
    have Hb := Lib.hid hbl
    show Calls Tryd.prog 20 #[.agg #[.int .i64 1, .int .i64 c, .string s, .slice (some ⟨g, 0, none⟩) 1 cap]] w fun en w' => en = .returned (.string (tx (.wrap c s k))) ∧ Below w.heap.size w w'
    clear hbl hk r0 r1 r2 r3 hg
    generalize tx k = D at *
    go_enter Tryd.func20, Tryd.ntmps20
    go_wp2_with fail
    refine C.out.mono ?_
    rintro en w2 ⟨rfl, b2⟩
    obtain ⟨z0, z1, z2, z3⟩ := cell4 _ _ _ _ _ _ b2
    have B2 := Lib.hid b2
    clear b2 C q0 q1 q2 q3
    go_wp2
    go_ret
    exact ⟨by rw [ht.out]; rfl, Hb.out.trans (B2.out.mono (by simp))⟩
  | n + 1, .many l, hz, hn, hg, x, w, h, hB => by
    have hgL : FA.GoodL l := hg
    simp only [RepR] at h
    obtain ⟨g, cap, rfl, hgB, hm, hl⟩ := h
    rw [sz] at hz
    have hlen := len_szL l
    have Hl := Lib.hid hl
    have Hg := Lib.hid hgL
    have IH := Lib.hid (rtext_any B n)
    have B0 : Hid (Below w.heap.size w (w.alloc (.cells #[.int .i64 2, .int .i64 0, .string ⟨#[]⟩, .slice (some ⟨g, 0, none⟩) l.length cap] 27))) := (Below.refl _ _).alloc (Nat.le_refl _) _
    have ht : Hid (tx (.many l) = bs (textL false l)) := Lib.hid (by rw [tx, text])
    have hL := Lib.hid (textL_len false l hgL)
    show Calls Tryd.prog 20 #[.agg #[.int .i64 2, .int .i64 0, .string ⟨#[]⟩, .slice (some ⟨g, 0, none⟩) l.length cap]] w fun en w' => en = .returned (.string (tx (.many l))) ∧ Below w.heap.size w w'
    clear hl hgL hg hm
    go_enter Tryd.func20, Tryd.ntmps20
    go_wp2
    go_loopw [5, 6] (fun s i wr => ∃ (k : Nat) (S : ByteArray), i = .int .i64 k ∧ s = .string S ∧ k ≤ l.length ∧ S.size ≤ 60 * szL l ∧ Hid (S.data.toList ++ textL (decide (0 < k)) (l.drop k) = textL false l) ∧ Hid (Below (w.alloc (.cells #[.int .i64 2, .int .i64 0, .string ⟨#[]⟩, .slice (some ⟨g, 0, none⟩) l.length cap] 27)).heap.size (w.alloc (.cells #[.int .i64 2, .int .i64 0, .string ⟨#[]⟩, .slice (some ⟨g, 0, none⟩) l.length cap] 27)) wr))
      (fun _ i _ => l.length - (intOf i).toNat)
    case atStart => exact ⟨0, ⟨#[]⟩, rfl, rfl, by omega, Nat.zero_le _, Lib.hid rfl, Lib.hid (Below.refl _ _)⟩
    case round =>
      obtain ⟨k, S, rfl, rfl, hk, hS, hk1, hbr⟩ := hrel
      have hsr := hbr.out.size
      simp at hsr
      have hbw : Hid (Below w.heap.size w wr) := B0.out.trans (hbr.out.mono (by simp))
      obtain ⟨_, _, _, c3⟩ := cell4 _ _ _ _ _ _ hbr.out
      by_cases hlt : k < l.length
      · obtain ⟨ek, hek⟩ : ∃ ek, l[k]? = some ek := ⟨l[k], List.getElem?_eq_getElem hlt⟩
        obtain ⟨y, ⟨r0, r1, r2, r3⟩, hy⟩ := RepRL.at_ Hl.out hek
        rw [Nat.zero_add] at r0 r1 r2 r3
        have q0 : wr.cell? ⟨g, k * 4, none⟩ = some (.int .i64 (kind ek)) := by rw [hbw.out.cell (by simp; omega)]; exact r0
        have q1 : wr.cell? ⟨g, k * 4 + 1, none⟩ = some (.int .i64 (cd ek)) := by rw [hbw.out.cell (by simp; omega)]; exact r1
        have q2 : wr.cell? ⟨g, k * 4 + 2, none⟩ = some (.string (wh ek)) := by rw [hbw.out.cell (by simp; omega)]; exact r2
        have q3 : wr.cell? ⟨g, k * 4 + 3, none⟩ = some y := by rw [hbw.out.cell (by simp; omega)]; exact r3
        have hszk := szL_mem (List.mem_of_getElem? hek)
        have hgk := GoodL_mem Hg.out (List.mem_of_getElem? hek)
        have C := Lib.hid (IH.out ek (by omega) (by omega) hgk y wr (RepR.below (hbw.out.mono hB) _ _ hy) (by omega))
        have hd : (tx ek).size ≤ 10000000 := by have := tx_size hgk; omega
        have hTl := Lib.hid (tx_list ek)
        have e1 := hk1.out
        rw [textL_at hek] at e1
        have e2 := congrArg List.length e1
        have hL' := hL.out
        simp only [List.length_append] at e2
        rw [← size_list, ← hTl.out, ← size_list] at e2
        generalize tx ek = D at *
        by_cases hk0 : 0 < k
        · rw [show decide (0 < k) = true by simpa using hk0, sep_true] at e1 e2
          simp only [List.length_cons, List.length_nil] at e2
          have hS2 : S.size + 2 + D.size ≤ 60 * szL l := by omega
          have E1 := Lib.hid e1
          clear hek r0 r1 r2 r3 hy e1 e2 hL' hgk
          go_wp2_with fail
          refine C.out.mono ?_
          rintro en w2 ⟨rfl, b2⟩
          have B2 := Lib.hid b2
          clear b2 C
          go_wp2
          go_roundw
          case rel =>
            refine ⟨k + 1, S ++ ⟨#[59, 32]⟩ ++ D, by go_num, rfl, by omega, ?_, Lib.hid ?_, Lib.hid (hbr.out.trans (B2.out.mono (by simp; omega)))⟩
            · rw [ByteArray.size_append, ByteArray.size_append]; exact hS2
            · rw [show decide (0 < k + 1) = true by simp, ← E1.out, app_list, app_list, hTl.out]
              simp
          case measure => simp [intOf]; omega
        · have hkk : k = 0 := by omega
          subst hkk
          simp only [Nat.lt_irrefl, decide_false, sep_false, List.nil_append, List.length_nil] at e1 e2
          have hS2 : S.size + D.size ≤ 60 * szL l := by omega
          have E1 := Lib.hid e1
          clear hek r0 r1 r2 r3 hy e1 e2 hL' hgk hk0
          go_wp2_with fail
          refine C.out.mono ?_
          rintro en w2 ⟨rfl, b2⟩
          have B2 := Lib.hid b2
          clear b2 C
          go_wp2
          go_roundw
          case rel =>
            refine ⟨1, S ++ D, by go_num, rfl, by omega, ?_, Lib.hid ?_, Lib.hid (hbr.out.trans (B2.out.mono (by simp; omega)))⟩
            · rw [ByteArray.size_append]; exact hS2
            · rw [show decide (0 < 1) = true by simp, ← E1.out, app_list, hTl.out]
              simp
          case measure => simp [intOf]; omega
      · have hkl : k = l.length := by omega
        subst hkl
        have e1 := hk1.out
        rw [textL_end, List.append_nil] at e1
        have E1 := Lib.hid (bs_of e1)
        clear e1
        go_wp2
        go_ret
        exact ⟨by rw [ht.out, ← E1.out]; rfl, hbw.out⟩

theorem rtextO_any (B : Nat) (x : Option E) (y : Value) (w : World) (h : RepRO w B x y) (hg : GoodO x) (hB : B ≤ w.heap.size) (hz : szO x ≤ 10000) :
    Calls Tryd.prog 20 #[recO x y] w fun en w' => en = .returned (.string (bs (textO x))) ∧ Below w.heap.size w w' := by
  cases x with
  | none =>
    obtain rfl : y = .slice none 0 0 := h
    show Calls Tryd.prog 20 #[.agg #[.int .i64 0, .int .i64 0, .string ⟨#[]⟩, .slice none 0 0]] w fun en w' => en = .returned (.string ⟨#[]⟩) ∧ Below w.heap.size w w'
    go_enter Tryd.func20, Tryd.ntmps20
    go_wp2
    go_ret
    exact ⟨rfl, (Below.refl _ _).alloc (Nat.le_refl _) _⟩
  | some e => exact rtext_any B _ e (Nat.le_refl _) (by have : sz e ≤ 10000 := hz; omega) hg y w h hB
end Go.Proofs.YteacjahncngoiaaDoor
