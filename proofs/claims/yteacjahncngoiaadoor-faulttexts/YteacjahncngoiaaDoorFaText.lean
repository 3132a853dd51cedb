/- Text: what is written of an error. -/
import Derived.Test.YteacjahncngoiaaDoorFaWrap
import Derived.Test.YteacjahncngoiaaDoorFaLays
namespace Go.Proofs.YteacjahncngoiaaDoor
open Go.RowKit Go.Extern.Stop Go.Stop Go.Extern FA

theorem Tabs.belowB {w w' : World} {B : Nat} (h : Tabs w) (hB : 4 ≤ B) (hb : Below B w w') : Tabs w' := by
  refine ⟨?_, ?_⟩
  · rw [hb.cell (p := ⟨0, 0, none⟩) (by simp; omega)]; exact h.1
  · have hg : Tryd.prog.globalNamed powName = some 1 := by kernel_rfl
    have h2 : w.var? Tryd.prog powName = _ := h.2
    show w'.var? Tryd.prog powName = _
    rw [← h2]
    unfold World.var?
    rw [hg]
    simp only [Option.bind_some]
    rw [hb.block _ (by omega)]

/-- The builder has the bytes t more. -/
def Wrote (w : World) (B b : Nat) (l t : List UInt8) (en : Ending) (w' : World) : Prop := en = .returned (.tuple #[]) ∧ Bld B b (l ++ t) w' ∧ Below B w w'

theorem Bld.below {w w' : World} {B b : Nat} {l : List UInt8} (h : Bld B b l w) (hb : Below w.heap.size w w') : Bld B b l w' := by
  have key : ∀ p, Lib.BuilderAt 77 5 B b p (Lib.byteCells l) w → Lib.BuilderAt 77 5 B b p (Lib.byteCells l) w' := by
    rintro p ⟨h1, v, h2, h3, h4⟩
    have hl : b < w.heap.size := lt_heap h2
    refine ⟨h1, v, (hb.block b hl).trans h2, ?_, h4⟩
    exact h3.kept (row := none) ⟨hb.os, hb.tape, hb.output, hb.size, fun i hi _ => hb.block i hi⟩ (by
      rcases h3.2 with ⟨rfl, _⟩ | ⟨g, c, u, rfl, _⟩
      · exact .inl rfl
      · exact .inr (by simp [Value.ownBlock]))
  rcases h with h | h
  · exact .inl (key _ h)
  · exact .inr (key _ h)

theorem len_ls (l : List UInt8) (s : ByteArray) : (l ++ s.data.toList).length = l.length + s.data.size := by simp
theorem szd (c : Nat) : (⟨(dec c).toArray⟩ : ByteArray).size = (dec c).length := by simp [ByteArray.size]

theorem wfault_leaf (B b fb c : Nat) (s : ByteArray) (l : List UInt8) (w : World) (hf : w.heap[fb]? = some (.cells #[.int .u8 c, .string s, .nilIface] 51 (0, 0))) (hfB : fb < B) (h : Bld B b l w) (hT : Tabs w) (hG : 4 ≤ B) (hB : B ≤ w.heap.size) (hc : c < 256)
    (hlen : l.length + (text (.leaf c s)).length ≤ 1000000) :
    Calls Tryd.prog 44 #[.pointer (some ⟨b, 0, none⟩), .pointer (some ⟨fb, 0, none⟩)] w (Wrote w B b l (text (.leaf c s))) := by
  have ht : text (.leaf c s) = s.data.toList ++ ([58, 32] ++ dec c) := by rw [text]
  rw [ht] at hlen ⊢
  clear ht
  simp only [List.length_append, List.length_cons, List.length_nil, Array.length_toList] at hlen
  have hs : s.size = s.data.size := rfl
  have C1 := Lib.hid (writes_any B b l s w h (by omega) hB)
  have c1 : w.cell? ⟨fb, 1, none⟩ = some (.string s) := by rw [cell_heap hf]; rfl
  have HT := Lib.hid hT
  have Hf := Lib.hid hf
  clear h hT hf hs
  go_enter Tryd.func44, Tryd.ntmps44
  go_wp2_with fail
  refine C1.out.mono ?_
  rintro en w1 ⟨rfl, h1, b1⟩
  have hs1 := b1.size
  have C2 := Lib.hid (writes_any B b _ ⟨#[58, 32]⟩ w1 h1 (by rw [len_ls]; show _ + 2 ≤ _; omega) (by omega))
  have B1 := Lib.hid b1
  have c2 : w1.cell? ⟨fb, 2, none⟩ = some .nilIface := by rw [b1.cell (p := ⟨fb, 2, none⟩) hfB, cell_heap Hf.out]; rfl
  clear b1 h1 C1
  go_wp2_with fail
  refine C2.out.mono ?_
  rintro en w2 ⟨rfl, h2, b2⟩
  have hs2 := b2.size
  have B2 : Hid (Below B w w2) := B1.out.trans b2
  have c3 : w2.cell? ⟨fb, 2, none⟩ = some .nilIface := by rw [B2.out.cell (p := ⟨fb, 2, none⟩) hfB, cell_heap Hf.out]; rfl
  have c4 : w2.cell? ⟨fb, 0, none⟩ = some (.int .u8 c) := by rw [B2.out.cell (p := ⟨fb, 0, none⟩) hfB, cell_heap Hf.out]; rfl
  have C3 := Lib.hid (itoa_any c hc w2 (HT.out.belowB hG B2.out).2)
  have H2 := Lib.hid h2
  clear b2 h2 C2 c2 B1
  go_wp2_with fail
  refine C3.out.mono ?_
  rintro en w3 ⟨rfl, b3⟩
  have hs3 := b3.size
  have C4 := Lib.hid (writes_any B b _ ⟨(dec c).toArray⟩ w3 (H2.out.below b3) (by rw [List.length_append, len_ls, szd]; show _ + 2 + _ ≤ _; omega) (by omega))
  have B3 : Hid (Below B w w3) := B2.out.trans (b3.mono (by omega))
  clear b3 C3 H2 c3 c4 B2
  go_wp2_with fail
  refine C4.out.mono ?_
  rintro en w4 ⟨rfl, h4, b4⟩
  have B4 : Hid (Below B w w4) := B3.out.trans b4
  have H4 := Lib.hid h4
  clear b4 h4 C4 B3
  go_wp2
  refine bodyPost_ret (results_none rfl _ _ _) rfl ?_
  refine ⟨rfl, ?_, B4.out⟩
  have := H4.out
  simpa using this

theorem wfault_wrap (B b fb c : Nat) (s : ByteArray) (k : E) (u : Value) (l : List UInt8) (w : World) (hf : w.heap[fb]? = some (.cells #[.int .u8 c, .string s, u] 51 (0, 0))) (hfB : fb < B) (h : Bld B b l w) (hB : B ≤ w.heap.size) (hu : RepE w B k u)
    (hlen : l.length + (text (.wrap c s k)).length ≤ 1000000)
    (IH : ∀ (l' : List UInt8) (w' : World), Below B w w' → Bld B b l' w' → l'.length + (text k).length ≤ 1000000 → Calls Tryd.prog 37 #[.pointer (some ⟨b, 0, none⟩), u] w' (Wrote w' B b l' (text k))) :
    Calls Tryd.prog 44 #[.pointer (some ⟨b, 0, none⟩), .pointer (some ⟨fb, 0, none⟩)] w (Wrote w B b l (text (.wrap c s k))) := by
  have ht : text (.wrap c s k) = s.data.toList ++ ([58, 32] ++ text k) := by rw [text]
  rw [ht] at hlen ⊢
  clear ht
  simp only [List.length_append, List.length_cons, List.length_nil, Array.length_toList] at hlen
  have hs : s.size = s.data.size := rfl
  have C1 := Lib.hid (writes_any B b l s w h (by omega) hB)
  have c1 : w.cell? ⟨fb, 1, none⟩ = some (.string s) := by rw [cell_heap hf]; rfl
  obtain ⟨tu, bu, rfl⟩ := RepE.iface hu
  have HI := Lib.hid IH
  have Hf := Lib.hid hf
  clear h hf hs IH hu
  go_enter Tryd.func44, Tryd.ntmps44
  go_wp2_with fail
  refine C1.out.mono ?_
  rintro en w1 ⟨rfl, h1, b1⟩
  have hs1 := b1.size
  have C2 := Lib.hid (writes_any B b _ ⟨#[58, 32]⟩ w1 h1 (by rw [len_ls]; show _ + 2 ≤ _; omega) (by omega))
  have B1 := Lib.hid b1
  clear b1 h1 C1
  go_wp2_with fail
  refine C2.out.mono ?_
  rintro en w2 ⟨rfl, h2, b2⟩
  have hs2 := b2.size
  have B2 : Hid (Below B w w2) := B1.out.trans b2
  have c3 : w2.cell? ⟨fb, 2, none⟩ = some (.iface tu (.pointer (some ⟨bu, 0, none⟩))) := by rw [B2.out.cell (p := ⟨fb, 2, none⟩) hfB, cell_heap Hf.out]; rfl
  have C3 := Lib.hid (HI.out _ w2 B2.out h2 (by rw [List.length_append, len_ls]; show _ + 2 + _ ≤ _; omega))
  clear b2 h2 C2 B1
  go_wp2_with fail
  refine C3.out.mono ?_
  rintro en w3 ⟨rfl, h3, b3⟩
  have B3 : Hid (Below B w w3) := B2.out.trans b3
  have H3 := Lib.hid h3
  clear b3 h3 C3 B2
  go_wp2
  go_end0
  refine ⟨rfl, ?_, B3.out⟩
  have := H3.out
  simpa using this

theorem wfault_nil (b : Value) (w : World) :
    Calls Tryd.prog 44 #[b, .pointer none] w fun e w' => e = .returned (.tuple #[]) ∧ w = w' := by
  go_enter Tryd.func44, Tryd.ntmps44
  go_wp2
  refine bodyPost_ret (results_none rfl _ _ _) rfl ?_
  exact ⟨rfl, rfl⟩
end Go.Proofs.YteacjahncngoiaaDoor
