/- write and Text at any error. -/
import Derived.Test.YteacjahncngoiaaDoorFaText
import Derived.Test.YteacjahncngoiaaDoorFaRow
namespace Go.Proofs.YteacjahncngoiaaDoor
open Go.RowKit Go.Extern.Stop Go.Stop Go.Extern FA

theorem Wrote.le {w w0 w' : World} {B b : Nat} {l t l' t' : List UInt8} {en : Ending} (hb : Below B w0 w) (h : Wrote w B b l t en w') (he : l ++ t = l' ++ t') : Wrote w0 B b l' t' en w' :=
  ⟨h.1, he ▸ h.2.1, hb.trans h.2.2⟩

theorem sep_true : sep true = [59, 32] := rfl
theorem sep_false : sep false = [] := rfl

set_option maxRecDepth 100000 in
set_option maxHeartbeats 4000000 in
theorem write_any (B b : Nat) (hG : 4 ≤ B) : ∀ (n : Nat) (e : E), sz e ≤ n → n ≤ 1000000 → FA.Good e → ∀ (v : Value) (l : List UInt8) (w : World), RepE w B e v → Bld B b l w → Tabs w → B ≤ w.heap.size → l.length + (text e).length ≤ 1000000 →
    Calls Tryd.prog 37 #[.pointer (some ⟨b, 0, none⟩), v] w (Wrote w B b l (text e))
  | 0, e, hz, _, _, _, _, _, _, _, _, _, _ => by have := sz_pos e; omega
  | n + 1, e, hz, hn, hgd, v, l, w, h, hbl, hT, hB, hlen => by
    cases e with
    | leaf c s =>
      simp only [RepE] at h
      obtain ⟨fb, rfl, hlt, hh⟩ := h
      have C := Lib.hid (wfault_leaf B b fb c s l w hh hlt hbl hT hG hB hgd.1 hlen)
      have a1 := taFF
      clear hh hbl hT
      go_enter Tryd.func37, Tryd.ntmps37
      go_wp2_with fail
      refine C.out.mono ?_
      rintro en w1 ⟨rfl, h1, b1⟩
      have H1 := Lib.hid h1; have B1 := Lib.hid b1
      clear h1 b1 C
      go_wp2
      go_end0
      exact ⟨rfl, H1.out, B1.out⟩
    | wrap c s k =>
      simp only [RepE] at h
      obtain ⟨fb, u, rfl, hlt, hh, hk⟩ := h
      simp only [sz] at hz
      have C := Lib.hid (wfault_wrap B b fb c s k u l w hh hlt hbl hB hk hlen fun l' w' hb' hbl' hlen' =>
        write_any B b hG n k (by omega) (by omega) hgd.2.2.2 u l' w' (RepE.below hb' _ _ hk) hbl' (hT.belowB hG hb') (by have := hb'.size; omega) hlen')
      have a1 := taFF
      clear hh hbl hT hk
      go_enter Tryd.func37, Tryd.ntmps37
      go_wp2_with fail
      refine C.out.mono ?_
      rintro en w1 ⟨rfl, h1, b1⟩
      have H1 := Lib.hid h1; have B1 := Lib.hid b1
      clear h1 b1 C
      go_wp2
      go_end0
      exact ⟨rfl, H1.out, B1.out⟩
    | other s =>
      simp only [RepE] at h
      obtain ⟨eb, rfl, hlt, hh⟩ := h
      have ht : text (.other s) = s.data.toList := by rw [text]
      rw [ht] at hlen ⊢
      have hs : s.size = s.data.size := rfl
      have hs2 : s.data.toList.length = s.data.size := Array.length_toList
      have C1 := Lib.hid (errtext_w eb s w (by rw [cell_heap hh]; rfl))
      have C2 := Lib.hid (writes_any B b l s w hbl (by omega) hB)
      have a1 := taFO; have a2 := taJO; have a3 := mErO
      clear hh hbl hT ht hs hs2
      go_enter Tryd.func37, Tryd.ntmps37
      go_wp2_with fail
      refine C1.out.mono ?_
      rintro en w1 ⟨rfl, rfl⟩
      go_wp2_with fail
      refine C2.out.mono ?_
      rintro en w1 ⟨rfl, h1, b1⟩
      have H1 := Lib.hid h1; have B1 := Lib.hid b1
      clear h1 b1 C1 C2
      go_wp2
      go_end0
      exact ⟨rfl, H1.out, B1.out⟩
    | many ls =>
      simp only [RepE] at h
      obtain ⟨jb, g, cap, us, rfl, hlt, hbk, hg, hl0, hlc, hcm, hus, hl⟩ := h
      simp only [sz] at hz
      have hlenl := len_szL ls
      have ht : text (.many ls) = textL false ls := by rw [text]
      rw [ht] at hlen ⊢
      have c0 : w.cell? ⟨jb, 0, none⟩ = some (.slice (some ⟨g, 0, none⟩) ls.length cap) := by rw [cell_heap hbk]; rfl
      have HT := Lib.hid hT; have Hb := Lib.hid hbl; have Hus := Lib.hid hus; have Hl := Lib.hid hl
      have Hgd : Hid (FA.GoodL ls) := hgd
      have IH := Lib.hid (write_any B b hG n)
      have Hlen := Lib.hid hlen
      have a1 := taFJ; have a2 := taJJ
      clear ht hT hbl hus hl hbk hlen hgd
      go_enter Tryd.func37, Tryd.ntmps37
      go_wp2
      go_loopw [30] (fun i wr => ∃ (k : Nat) (done : List UInt8), i = .int .i64 k ∧ k ≤ ls.length ∧ Hid (done ++ textL (decide (0 < k)) (ls.drop k) = l ++ textL false ls) ∧ Hid (Bld B b done wr) ∧ Hid (Below B w wr))
        (fun i _ => ls.length - (intOf i).toNat)
      case atStart => exact ⟨0, l, rfl, by omega, Lib.hid rfl, Hb, Lib.hid (Below.refl _ _)⟩
      case round =>
        obtain ⟨k, done, rfl, hk, hk1, hbd, hbr⟩ := hrel
        have hsr := hbr.out.size
        by_cases hlt2 : k < ls.length
        · obtain ⟨ek, hek⟩ : ∃ ek, ls[k]? = some ek := ⟨ls[k], List.getElem?_eq_getElem hlt2⟩
          obtain ⟨u, hu, hru⟩ := RepL.at_ Hl.out hek
          obtain ⟨tu, bu, rfl⟩ := RepE.iface hru
          have c1 : wr.cell? ⟨g, k, none⟩ = some (.iface tu (.pointer (some ⟨bu, 0, none⟩))) := by rw [hbr.out.cell (p := ⟨g, k, none⟩) hg]; exact Hus.out k _ hu
          have hszk := szL_mem (List.mem_of_getElem? hek)
          have hgk := GoodL_mem Hgd.out (List.mem_of_getElem? hek)
          have e1 := hk1.out
          rw [textL_at hek] at e1
          have e2 := congrArg List.length e1
          have hL := Hlen.out
          simp only [List.length_append] at e2
          by_cases hk0 : 0 < k
          · rw [show decide (0 < k) = true by simpa using hk0, sep_true] at e1 e2
            simp only [List.length_cons, List.length_nil] at e2
            have C1 := Lib.hid (writes_any B b done ⟨#[59, 32]⟩ wr hbd.out (by show _ + 2 ≤ _; omega) (by omega))
            have E1 := Lib.hid e1
            have hlen3 : (done ++ [59, 32]).length + (text ek).length ≤ 1000000 := by rw [List.length_append]; show _ + 2 + _ ≤ _; omega
            have Hru := Lib.hid hru; have Hgk := Lib.hid hgk
            have Hlen3 := Lib.hid hlen3
            clear hek hu hru e1 e2 hL hgk hlen3
            go_wp2_with fail
            refine C1.out.mono ?_
            rintro en w1 ⟨rfl, h1, b1⟩
            have B1 : Hid (Below B w w1) := hbr.out.trans b1
            have hs1 := b1.size
            have C2 := Lib.hid (IH.out ek (by omega) (by omega) Hgk.out _ _ w1 (RepE.below B1.out _ _ Hru.out) h1 (HT.out.belowB hG B1.out) (by omega) Hlen3.out)
            clear h1 b1 C1
            go_wp2_with fail
            refine C2.out.mono ?_
            rintro en w2 ⟨rfl, h2, b2⟩
            have B2 : Hid (Below B w w2) := B1.out.trans b2
            have H2 := Lib.hid h2
            clear h2 b2 C2
            go_wp2
            go_roundw
            case rel =>
              refine ⟨k + 1, _, by go_num, by omega, Lib.hid ?_, H2, B2⟩
              rw [show decide (0 < k + 1) = true by simp, ← E1.out]
              simp
            case measure => simp [intOf]; omega
          · have hkk : k = 0 := by omega
            subst hkk
            simp only [Nat.lt_irrefl, decide_false, sep_false, List.nil_append] at e1
            have C2 := Lib.hid (IH.out ek (by omega) (by omega) hgk _ done wr (RepE.below hbr.out _ _ hru) hbd.out (HT.out.belowB hG hbr.out) (by omega) (by omega))
            have E1 := Lib.hid e1
            clear hek hu hru e1 e2 hL hgk hk0
            go_wp2_with fail
            refine C2.out.mono ?_
            rintro en w2 ⟨rfl, h2, b2⟩
            have B2 : Hid (Below B w w2) := hbr.out.trans b2
            have H2 := Lib.hid h2
            clear h2 b2 C2
            go_wp2
            go_roundw
            case rel =>
              refine ⟨1, _, by go_num, by omega, Lib.hid ?_, H2, B2⟩
              rw [show decide (0 < 1) = true by simp, ← E1.out]
              simp
            case measure => simp [intOf]; omega
        · have hkl : k = ls.length := by omega
          subst hkl
          go_wp2
          go_end0
          refine ⟨rfl, ?_, hbr.out⟩
          have := hk1.out
          rw [textL_end, List.append_nil] at this
          rw [← this]
          exact hbd.out

def textO : Option E → List UInt8 | none => [] | some e => text e
def GoodO : Option E → Prop | none => True | some e => FA.Good e

theorem Bld.new (w : World) : Bld w.heap.size w.heap.size [] (w.alloc (.cells #[.pointer none, .slice none 0 0] 77)) :=
  .inl ⟨Nat.le_refl _, _, heap_alloc_new w _, own_nil _ _ _ _, by simp [Value.ownBlock]⟩

set_option maxHeartbeats 1000000 in
theorem text_any (B : Nat) (x : Option E) (v : Value) (w : World) (h : RepO w B x v) (hg : GoodO x) (hB : B ≤ w.heap.size) (hG : 4 ≤ w.heap.size) (hz : szO x ≤ 10000) (hT : Tabs w) :
    Calls Tryd.prog 19 #[v] w fun en w' => en = .returned (.string ⟨(textO x).toArray⟩) ∧ Below w.heap.size w w' := by
  have hbl := (Below.refl w.heap.size w).alloc (Nat.le_refl _) (.cells #[.pointer none, .slice none 0 0] 77)
  have C : Hid (Calls Tryd.prog 37 #[.pointer (some ⟨w.heap.size, 0, none⟩), v] (w.alloc (.cells #[.pointer none, .slice none 0 0] 77)) (Wrote (w.alloc (.cells #[.pointer none, .slice none 0 0] 77)) w.heap.size w.heap.size [] (textO x))) := by
    cases x with
    | none =>
      obtain rfl : v = .nilIface := h
      have HB := Lib.hid (Bld.new w)
      clear hbl hT
      refine Lib.hid ?_
      go_enter Tryd.func37, Tryd.ntmps37
      go_wp2
      go_end0
      exact ⟨rfl, by simpa [textO] using HB.out, Below.refl _ _⟩
    | some e =>
      have hl := text_len e hg
      refine Lib.hid (write_any w.heap.size w.heap.size hG _ e (Nat.le_refl _) (by simp only [szO] at hz; omega) hg v [] _ (RepE.below hbl _ _ (RepE.more hB _ _ h)) (Bld.new w) (hT.below hbl) (by simp) ?_)
      simp only [szO] at hz
      simp only [List.length_nil]
      omega
  have Hb := Lib.hid hbl
  have Hv : v = .nilIface ∨ ∃ t p, v = .iface t p := by
    cases x with
    | none => exact .inl h
    | some e => obtain ⟨t, b, rfl⟩ := RepE.iface (show RepE w B e v from h); exact .inr ⟨_, _, rfl⟩
  clear hbl h hT hg
  rcases Hv with rfl | ⟨t, p, rfl⟩ <;>
  · go_enter Tryd.func19, Tryd.ntmps19
    go_wp2_with fail
    refine C.out.mono ?_
    rintro en w1 ⟨rfl, h1, b1⟩
    have B1 : Hid (Below w.heap.size w w1) := Hb.out.trans b1
    have hs1 := B1.out.size
    have C2 := Lib.hid (str_any w.heap.size w.heap.size _ w1 h1 hs1)
    clear h1 b1 C
    go_wp2_with fail
    refine C2.out.mono ?_
    rintro en w2 ⟨rfl, b2⟩
    have B2 : Hid (Below w.heap.size w w2) := B1.out.trans b2
    clear b2 C2
    go_wp2
    go_ret
    exact ⟨rfl, B2.out⟩
end Go.Proofs.YteacjahncngoiaaDoor
