/- The laws' argument, opened: a packet as plain data; how long its texts can be.; The laws' arguments, opened: rows of texts; what the bound on the bulk gives.; The laws' arguments, opened: rows of numbers.; The law's arguments, opened: a row of packets as texts and numbers. -/
import Derived.Test.YtemfcaaoobjgkaaGreatDoorMG
import Derived.Deep.Slices
import Derived.ChangeOld
import Derived.OpenShut
import Derived.SizedLaws
import Derived.Lib.Strings
import Derived.Test.YtemfcaaoobjgkaaGreatDoorRows
import Derived.Deep.Strs
import Derived.ChangeSlices
import Derived.Test.YtemfcaaoobjgkaaGreatDoorMD
namespace Go.Proofs.YtemfcaaoobjgkaaGreatDoor
open Go.RowKit Go.ChangeShapes Go.WideShapes Go.Deep

/-- Numbers and texts of an argument. -/
structure XFine (p : Pk) : Prop where
  kind : I64 p.kind
  qos : I64 p.qos
  id : I64 p.id
  topic : Short p.topic
  pay : Short p.pay
  code : 0 ≤ p.code ∧ p.code ≤ 255
  client : Short p.client
  keep : I64 p.keep
  wtopic : Short p.wtopic
  wpay : Short p.wpay
  wqos : I64 p.wqos
  user : Short p.user
  pass : Short p.pass
  codes : ∀ c ∈ p.codes, 0 ≤ c ∧ c ≤ 255
  subs : ∀ s ∈ p.subs, SbFine s
  filters : ∀ s ∈ p.filters, Short s
  props : ∀ q ∈ p.props, Fine q
  wprops : ∀ q ∈ p.wprops, Fine q
/-- The argument's five rows. -/
structure ArgX (w : World) (X : Pk) (Ac Ap Aw As Af : Option Addr) (cc cp cw cs cf : Nat) : Prop where
  codes : Codes w Ac X.codes
  props : Props w Ap X.props
  wprops : Props w Aw X.wprops
  subs : Subs w As X.subs
  filters : Texts w Af X.filters
  lc : X.codes.length ≤ maxLen ∧ X.codes.length ≤ cc
  lp : X.props.length ≤ maxLen ∧ X.props.length ≤ cp
  lw : X.wprops.length ≤ maxLen ∧ X.wprops.length ≤ cw
  ls : X.subs.length ≤ maxLen ∧ X.subs.length ≤ cs
  lf : X.filters.length ≤ maxLen ∧ X.filters.length ≤ cf
  fine : XFine X

theorem cell_lt' {w : World} {a : Addr} {v : Value} (h : w.cell? a = some v) : a.block < w.heap.size := by
  rcases Nat.lt_or_ge a.block w.heap.size with h' | h'
  · exact h'
  · exfalso
    have e : w.heap[a.block]? = none := Array.getElem?_eq_none h'
    simp [World.cell?, e] at h
theorem trod_in {H : Type} {enc : TypeId × Value → H} {P : Program} {w : World} {base : Nat} {spare : Nat → Bool} {held : Bool} {t : TypeId} {v : Value} {d : DataW H} {ps : List MemPlace} (h : DataW.Trod enc P w base spare held t v d ps) : ∀ x ∈ ps, x.block < w.heap.size := by
  obtain ⟨n, hn⟩ := h
  exact DataW.trod_lt n t _ _ hn
theorem i64_wf {n : Int} (h : (Lit.int .i64 n).wf = true) : I64 n := bounds_i64 h
theorem u8_wf {n : Int} (h : (Lit.int .u8 n).wf = true) : 0 ≤ n ∧ n ≤ 255 := bounds_u8 h
theorem take_at {l : List Value} {k m : Nat} {v : Value} (h : (l.drop k).take m = [v]) : l[k]? = some v := by
  have h0 := congrArg (fun x => x[0]?) h
  simp only [List.getElem?_take, List.getElem?_drop] at h0
  split at h0
  · simpa using h0
  · simp at h0
theorem take_in {l l' : List Value} {k m j : Nat} {v : Value} (h : l' = (l.drop k).take m) (hj : l'[j]? = some v) : l[k + j]? = some v := by
  rw [h, List.getElem?_take] at hj
  split at hj
  · rwa [List.getElem?_drop] at hj
  · cases hj
theorem list_of {α : Type} [Inhabited α] {len : Nat} {Q : Nat → α → Prop} (h : ∀ i, i < len → ∃ x, Q i x) : ∃ l : List α, l.length = len ∧ ∀ (i : Nat) x, l[i]? = some x → Q i x := by
  obtain ⟨X, hX⟩ := choose_lt h
  refine ⟨(List.range len).map X, by simp, fun i x hx => ?_⟩
  have hi : i < len := by have := (List.getElem?_eq_some_iff.1 hx).1; simpa using this
  have h2 : ((List.range len).map X)[i]? = some (X i) := by simp [hi]
  obtain rfl := Option.some.inj (hx.symm.trans h2)
  exact hX i hi
theorem mem_of {α : Type} {l : List α} {Q : Nat → α → Prop} {R : α → Prop} (h : ∀ (i : Nat) x, l[i]? = some x → Q i x) (hR : ∀ i x, Q i x → R x) : ∀ x ∈ l, R x := fun x hx => by
  obtain ⟨i, hi⟩ := List.mem_iff_getElem?.1 hx
  exact hR i x (h i x hi)

section
variable {H : Type} {enc : TypeId × Value → H} {P : Program} {w : World} {base : Nat} {spare : Nat → Bool} {held : Bool}
theorem wt_all {e : TypeId} : ∀ {l : List (DataW H)} {d : DataW H}, d ∈ l → ∀ n ∈ d.weights P e, n ∈ DataW.weightsAll P e l
  | x :: l, d, hd, n, hn => by
    simp only [DataW.weightsAll, List.mem_append]
    rcases List.mem_cons.1 hd with rfl | hd
    · exact .inl hn
    · exact .inr (wt_all hd n hn)
/-- A row of an argument: at every place its cells, and what they read as; what these weigh the row weighs too. -/
theorem open_rowC {t e : TypeId} {C : Nat} {fuel : Nat} {A : Option Addr} {len cap : Nat} {x : DataW H × List MemPlace} (ht : P.underlying t = some (.slice e)) (hC : P.cellsOf e = C) (h0 : 0 < C)
    (h : DataW.trod enc P w base spare held fuel t [.slice A len cap] = some x) :
    len ≤ cap ∧ len ≤ maxLen ∧ ∀ i, i < len → ∃ (g o n : Nat) (cs : List Value) (y : DataW H × List MemPlace), A = some ⟨g, o, none⟩ ∧ cs.length = C ∧ (∀ j, j < C → w.cell? ⟨g, o + i * C + j, none⟩ = cs[j]?) ∧
      DataW.trod enc P w base spare held n e cs = some y ∧ ∀ n ∈ y.1.weights P e, n ∈ x.1.weights P t := by
  rcases open_slice ht h with ⟨hcs, _⟩ | ⟨a, len', cap', m, n, D, Pl, hcs, hb, hl, hm, hmm, hx, hi⟩
  · have e1 : Value.slice A len cap = .slice none 0 0 := by simpa using hcs
    injection e1 with e1 e2 e3
    subst e2 e3
    exact ⟨Nat.le_refl _, by simp [maxLen], fun i hi => absurd hi (by omega)⟩
  · have e1 : Value.slice A len cap = .slice (some a) len' cap' := by simpa using hcs
    injection e1 with e1 e2 e3
    subst e1 e2 e3
    refine ⟨hl, by omega, fun i hlt => ?_⟩
    obtain ⟨cs, h1, h2⟩ := hi i (by rw [hmm]; split <;> omega)
    rw [hC] at h1
    obtain ⟨_, hlen, hat⟩ := World.cells?_some h1
    obtain ⟨b, o, spot⟩ := a
    have hspot : spot = none := by
      obtain ⟨cs0, h10, _⟩ := hi 0 (by rw [hmm]; split <;> omega)
      rw [hC] at h10
      obtain ⟨_, hlen0, hat0⟩ := World.cells?_some h10
      have h00 := hat0 0 (by omega)
      rw [List.getElem?_eq_getElem (by omega)] at h00
      simpa [Addr.add] using World.cell?_spot h00
    subst hspot
    refine ⟨b, o, n, cs, (D i, Pl i), rfl, hlen, fun j hj => ?_, h2, fun n hn => ?_⟩
    · have := hat j (by omega)
      simpa only [add_plain] using this
    · rw [hx]
      simp only [DataW.weights, ht, List.mem_cons, List.mem_append]
      exact .inr (.inl (wt_all (List.mem_map.2 ⟨i, by simpa using hlt, rfl⟩) n hn))
theorem slice_form {t e : TypeId} {fuel : Nat} {cs : List Value} {x : DataW H × List MemPlace} (ht : P.underlying t = some (.slice e)) (h : DataW.trod enc P w base spare held fuel t cs = some x) : ∃ A n k, cs = [.slice A n k] := by
  rcases open_slice ht h with ⟨hcs, _⟩ | ⟨a, len', cap', m, n, D, Pl, hcs, _⟩
  · exact ⟨_, _, _, hcs⟩
  · exact ⟨_, _, _, hcs⟩
theorem str_short {t : TypeId} {s : ByteArray} {y : DataW H × List MemPlace} {R : List Nat} (hy : y = (.lit (.string s.data.toList), [])) (hw : ∀ n ∈ y.1.weights P t, n ∈ R) (hz : ∀ n ∈ R, n ≤ reachBytes) : Short s := by
  have := hz s.data.toList.length (hw _ (by rw [hy]; simp [DataW.weights]))
  rw [← Lib.size_eq] at this
  exact this
end
instance : Inhabited Pr := ⟨⟨0, 0, ⟨#[]⟩, ⟨#[]⟩⟩⟩
instance : Inhabited Sb := ⟨⟨⟨#[]⟩, 0, false, false, 0⟩⟩
theorem at0 {w : World} {g o i : Nat} {cs : List Value} {v : Value} {C j : Nat} (h : ∀ j, j < C → w.cell? ⟨g, o + i * C + j, none⟩ = cs[j]?) (hj : j < C) (hc : cs[j]? = some v) : w.cell? ⟨g, o + i * C + j, none⟩ = some v := (h j hj).trans hc
theorem pk_ext {cs : Array Value} {X : Pk} {vc vp vw vs vf : Value} (hs : cs.size = 26) (h : ∀ i, i < 26 → cs.toList[i]? = (pkCells X vc vp vw vs vf).toList[i]?) : cs = pkCells X vc vp vw vs vf := by
  apply Array.toList_inj.1
  apply List.ext_getElem?
  intro i
  rcases Nat.lt_or_ge i 26 with hi | hi
  · exact h i hi
  · rw [List.getElem?_eq_none (by simpa [hs] using hi), List.getElem?_eq_none (show (pkCells X vc vp vw vs vf).toList.length ≤ i from hi)]

section
variable {H : Type} {enc : TypeId × Value → H} {w : World} {base : Nat} {spare : Nat → Bool} {held : Bool} {fuel : Nat} {A : Option Addr} {len cap : Nat} {x : DataW H × List MemPlace}
theorem open_codes (hf : DataW.trod enc Tryz.prog w base spare held fuel 64 [.slice A len cap] = some x) :
    ∃ l : List Int, l.length = len ∧ len ≤ maxLen ∧ len ≤ cap ∧ Codes w A l ∧ ∀ c ∈ l, 0 ≤ c ∧ c ≤ 255 := by
  obtain ⟨hc, hm, each⟩ := open_rowC Tryz.underlying64 (C := 1) (by kernel_rfl) (by decide) hf
  obtain ⟨l, hl, hX⟩ := list_of (α := Int) (Q := fun i c => (∃ g o, A = some ⟨g, o, none⟩ ∧ g < w.heap.size ∧ w.cell? ⟨g, o + i, none⟩ = some (.int .u8 c)) ∧ 0 ≤ c ∧ c ≤ 255) (fun i hi => by
    obtain ⟨g, o, n, cs, y, hA, hlen, hat, ht, hw⟩ := each i hi
    obtain ⟨z, rfl, _, wz⟩ := DataW.trod_int Tryz.underlying5 ht
    have h0 := hat 0 (by decide)
    rw [Nat.mul_one, Nat.add_zero] at h0
    exact ⟨z, ⟨g, o, hA, cell_lt' (h0.trans rfl), h0⟩, u8_wf wz⟩)
  exact ⟨l, hl, hm, hc, fun i c hx => (hX i c hx).1, mem_of hX fun _ _ h => h.2⟩
theorem open_texts5 (hf : DataW.trod enc Tryz.prog w base spare held fuel 22 [.slice A len cap] = some x) (hz : ∀ n ∈ x.1.weights Tryz.prog 22, n ≤ reachBytes) :
    ∃ l : List ByteArray, l.length = len ∧ len ≤ maxLen ∧ len ≤ cap ∧ Texts w A l ∧ ∀ c ∈ l, Short c := by
  obtain ⟨hc, hm, each⟩ := open_rowC Tryz.underlying22 (C := 1) (by kernel_rfl) (by decide) hf
  obtain ⟨l, hl, hX⟩ := list_of (α := ByteArray) (Q := fun i c => (∃ g o, A = some ⟨g, o, none⟩ ∧ g < w.heap.size ∧ w.cell? ⟨g, o + i, none⟩ = some (.string c)) ∧ Short c) (fun i hi => by
    obtain ⟨g, o, n, cs, y, hA, hlen, hat, ht, hw⟩ := each i hi
    obtain ⟨z, rfl, hy, _⟩ := DataW.trod_string Tryz.underlying9 ht
    have h0 := hat 0 (by decide)
    rw [Nat.mul_one, Nat.add_zero] at h0
    exact ⟨z, ⟨g, o, hA, cell_lt' (h0.trans rfl), h0⟩, str_short hy hw hz⟩)
  exact ⟨l, hl, hm, hc, fun i c hx => (hX i c hx).1, mem_of hX fun _ _ h => h.2⟩
end
end Go.Proofs.YtemfcaaoobjgkaaGreatDoor
namespace Go.Proofs.YtemfcaaoobjgkaaGreatDoor
open Go.RowKit Go.ChangeShapes Go.WideShapes Go.Deep

theorem bulk_app {H : Type} (l r : List (DataW H)) : Rows.uptoBulkAll (l ++ r) = Rows.uptoBulkAll l + Rows.uptoBulkAll r := by
  induction l with
  | nil => simp [Rows.uptoBulkAll]
  | cons x l ih => simp only [List.cons_append, Rows.uptoBulkAll, ih]; omega
theorem bulk_bound {H : Type} {l : List (DataW H)} (hk : Rows.uptoSmall H l = true) : Rows.uptoBulkAll l ≤ 1048576 := of_decide_eq_true hk
theorem bulk_string {H : Type} (s : ByteArray) : Rows.uptoBulk (DataW.lit (H := H) (.string s.data.toList)) = s.size + 1 := by
  have e : s.data.toList.length = s.size := by rw [Array.length_toList]; rfl
  simp only [Rows.uptoBulk, e]
theorem bulk_texts {H : Type} (l : List ByteArray) : bytesOf l ≤ Rows.uptoBulkAll (l.map fun s => DataW.lit (H := H) (.string s.data.toList)) := by
  induction l with
  | nil => simp [bytesOf, Rows.uptoBulkAll]
  | cons x l ih =>
    simp only [List.map_cons, Rows.uptoBulkAll, bulk_string]
    simp [bytesOf] at ih ⊢
    omega
theorem trod_lt' {H : Type} {enc : TypeId × Value → H} {P : Program} {w : World} {base : Nat} {spare : Nat → Bool} {held : Bool} {t : TypeId} {v : Value} {d : DataW H} {ps : List MemPlace} (h : DataW.Trod enc P w base spare held t v d ps) : ∀ x ∈ ps, x.block < w.heap.size := by
  obtain ⟨n, hn⟩ := h
  exact DataW.trod_lt n t _ _ hn
theorem cell_in {w : World} {a : Addr} {v : Value} (h : w.cell? a = some v) : a.block < w.heap.size := by
  rcases Nat.lt_or_ge a.block w.heap.size with h' | h'
  · exact h'
  · exfalso
    have e : w.heap[a.block]? = none := Array.getElem?_eq_none h'
    simp [World.cell?, e] at h
theorem texts_len : Tryz.prog.cellsOf 9 = 1 := by kernel_rfl
set_option maxRecDepth 100000 in
/-- An argument of texts. -/
theorem open_texts {H : Type} {enc : TypeId × Value → H} {w : World} {v : Value} {d : DataW H} {ps : List MemPlace} {r : Reach} {b0 : Nat} (hv : Value.okWide Tryz.prog w r b0 22 v) (h : DataW.Trod enc Tryz.prog w 0 (fun _ => true) true 22 v d ps) :
    ∃ A cap l, v = .slice A l.length cap ∧ l.length ≤ maxLen ∧ Texts w A l ∧ l.length ≤ cap ∧ bytesOf l ≤ Rows.uptoBulk d := by
  obtain ⟨A0, l0, c0, rfl⟩ := okWide_slice Tryz.underlying22 hv
  obtain ⟨n, hn⟩ := h
  rcases open_strs Tryz.underlying22 Tryz.underlying9 texts_len hn with ⟨hc, hx⟩ | ⟨a, len, cap, m, Sx, hc, _, hl, hm, hmm, hx, hi⟩
  · have e1 : Value.slice A0 l0 c0 = .slice none 0 0 := (List.cons.inj (show [Value.slice A0 l0 c0] = _ from hc)).1
    exact ⟨none, 0, [], e1, by simp [maxLen], fun i x hx => by simp at hx, Nat.le_refl _, by simp [bytesOf]⟩
  · have e1 : Value.slice A0 l0 c0 = .slice (some a) len cap := (List.cons.inj (show [Value.slice A0 l0 c0] = _ from hc)).1
    have hmc : m = cap := by simpa using hmm
    have hd : d = .slice ((List.range len).map fun i => .lit (.string (Sx i).data.toList)) ((List.range (m - len)).map fun j => .lit (.string (Sx (len + j)).data.toList)) := congrArg Prod.fst hx
    refine ⟨some a, cap, (List.range len).map Sx, by simpa using e1, by simp; omega, ?_, by simpa using hl, ?_⟩
    · intro i x hx
      rw [List.getElem?_map] at hx
      have hil : i < len := by
        rcases Nat.lt_or_ge i len with h' | h'
        · exact h'
        · rw [List.getElem?_eq_none (by simpa using h')] at hx; cases hx
      rw [List.getElem?_range hil] at hx
      simp at hx
      subst hx
      have h1 := (hi i (by omega)).1
      obtain ⟨b, o, spot⟩ := a
      have hspot : spot = none := by simpa [Addr.add] using World.cell?_spot (hi 0 (by omega)).1
      subst hspot
      rw [add_plain] at h1
      exact ⟨b, o, rfl, cell_in h1, h1⟩
    · rw [hd]
      simp only [Rows.uptoBulk]
      have := bulk_texts (H := H) ((List.range len).map Sx)
      rw [List.map_map] at this
      have e : ((fun s : ByteArray => DataW.lit (H := H) (.string s.data.toList)) ∘ Sx) = fun i => .lit (.string (Sx i).data.toList) := rfl
      rw [e] at this
      omega
end Go.Proofs.YtemfcaaoobjgkaaGreatDoor
namespace Go.Proofs.YtemfcaaoobjgkaaGreatDoor
open Go.RowKit Go.ChangeShapes Go.WideShapes Go.Deep

theorem nums_len : Tryz.prog.cellsOf 3 = 1 := by kernel_rfl
set_option maxRecDepth 100000 in
/-- An argument of numbers. -/
theorem open_nums {H : Type} {enc : TypeId × Value → H} {w : World} {v : Value} {d : DataW H} {ps : List MemPlace} {r : Reach} {b0 : Nat} (hv : Value.okWide Tryz.prog w r b0 46 v) (h : DataW.Trod enc Tryz.prog w 0 (fun _ => true) true 46 v d ps) :
    ∃ A cap l, v = .slice A l.length cap ∧ l.length ≤ maxLen ∧ Ints w A l ∧ l.length ≤ cap ∧ 0 ≤ Rows.uptoBulk d := by
  obtain ⟨A0, l0, c0, rfl⟩ := okWide_slice Tryz.underlying46 hv
  obtain ⟨n, hn⟩ := h
  rcases open_ints Tryz.underlying46 Tryz.underlying3 nums_len hn with ⟨hc, hx⟩ | ⟨a, len, cap, zs, hc, _, hl, hm, hlen, hx, hi, _⟩
  · have e1 : Value.slice A0 l0 c0 = .slice none 0 0 := (List.cons.inj (show [Value.slice A0 l0 c0] = _ from hc)).1
    exact ⟨none, 0, [], e1, by simp [maxLen], fun i x hx => by simp at hx, Nat.le_refl _, Nat.zero_le _⟩
  · have e1 : Value.slice A0 l0 c0 = .slice (some a) len cap := (List.cons.inj (show [Value.slice A0 l0 c0] = _ from hc)).1
    have hzl : zs.length = cap := by simpa using hlen
    have htl : (zs.take len).length = len := by rw [List.length_take]; omega
    refine ⟨some a, cap, zs.take len, by rw [htl]; exact e1, by rw [htl]; omega, ?_, by rw [htl]; exact hl, Nat.zero_le _⟩
    intro i x hy
    have hil : i < len := by have := (List.getElem?_eq_some_iff.1 hy).1; omega
    have h1 := hi i (by omega)
    obtain ⟨b, o, spot⟩ := a
    have hspot : spot = none := by simpa [Addr.add] using World.cell?_spot (hi 0 (by omega))
    subst hspot
    rw [add_plain] at h1
    rw [List.getElem?_take_of_lt hil] at hy
    rw [List.getD_eq_getElem?_getD, hy] at h1
    exact ⟨b, o, rfl, cell_in h1, h1⟩
end Go.Proofs.YtemfcaaoobjgkaaGreatDoor
namespace Go.Proofs.YtemfcaaoobjgkaaGreatDoor
open Go.RowKit Go.ChangeShapes Go.WideShapes Go.Deep

section
variable {H : Type} {enc : TypeId × Value → H} {P : Program} {w : World} {base : Nat} {spare : Nat → Bool} {held : Bool}
/-- A row of structs of five fields of one cell each: at every place the five cells, and what each reads as; what the last two weigh the row weighs too. -/
theorem open_row5 {t e : TypeId} {f0 f1 f2 f3 f4 : Field} {fuel : Nat} {A : Option Addr} {len cap : Nat} {x : DataW H × List MemPlace} (ht : P.underlying t = some (.slice e)) (he : P.underlying e = some (.struct #[f0, f1, f2, f3, f4]))
    (hC : P.cellsOf e = 5) (ho : f0.offset = 0 ∧ f1.offset = 1 ∧ f2.offset = 2 ∧ f3.offset = 3 ∧ f4.offset = 4) (hk : P.cellsOf f0.type = 1 ∧ P.cellsOf f1.type = 1 ∧ P.cellsOf f2.type = 1 ∧ P.cellsOf f3.type = 1 ∧ P.cellsOf f4.type = 1)
    (h : DataW.trod enc P w base spare held fuel t [.slice A len cap] = some x) :
    len ≤ cap ∧ len ≤ maxLen ∧ ∀ i, i < len → ∃ (g o n : Nat) (c0 c1 c2 c3 c4 : Value) (y0 y1 y2 y3 y4 : DataW H × List MemPlace), A = some ⟨g, o, none⟩ ∧ g < w.heap.size ∧
      (∀ (j : Nat) v, [c0, c1, c2, c3, c4][j]? = some v → w.cell? ⟨g, o + i * 5 + j, none⟩ = some v) ∧
      DataW.trod enc P w base spare held n f0.type [c0] = some y0 ∧ DataW.trod enc P w base spare held n f1.type [c1] = some y1 ∧ DataW.trod enc P w base spare held n f2.type [c2] = some y2 ∧ DataW.trod enc P w base spare held n f3.type [c3] = some y3 ∧ DataW.trod enc P w base spare held n f4.type [c4] = some y4 ∧
      (∀ n ∈ y3.1.weights P f3.type, n ∈ x.1.weights P t) ∧ (∀ n ∈ y4.1.weights P f4.type, n ∈ x.1.weights P t) := by
  obtain ⟨hc, hm, each⟩ := open_rowC ht hC (by decide) h
  refine ⟨hc, hm, fun i hi => ?_⟩
  obtain ⟨g, o, n, cs, y, hA, hlen, hat, h2, hw⟩ := each i hi
  obtain ⟨y1, y2⟩ := y
  obtain ⟨ys, n', _, hD, _, hyl, hf⟩ := DataW.trod_struct he h2
  match cs, hlen with
  | [c0, c1, c2, c3, c4], _ =>
    match ys, hyl with
    | [y0, y1', y2', y3, y4], _ =>
      have g0 := hf 0 f0 rfl
      have g1 := hf 1 f1 rfl
      have g2 := hf 2 f2 rfl
      have g3 := hf 3 f3 rfl
      have g4 := hf 4 f4 rfl
      rw [ho.1, hk.1] at g0
      rw [ho.2.1, hk.2.1] at g1
      rw [ho.2.2.1, hk.2.2.1] at g2
      rw [ho.2.2.2.1, hk.2.2.2.1] at g3
      rw [ho.2.2.2.2, hk.2.2.2.2] at g4
      have hD1 : y1 = .agg [y0.1, y1'.1, y2'.1, y3.1, y4.1] := congrArg Prod.fst hD
      rw [hD1] at hw
      simp only [DataW.weights, he, List.map_cons, List.map_nil, DataW.weightsEach, List.mem_append] at hw
      have hg : g < w.heap.size := by
        have h0 := hat 0 (by decide)
        exact cell_lt' (v := c0) (h0.trans rfl)
      exact ⟨g, o, n', c0, c1, c2, c3, c4, y0, y1', y2', y3, y4, hA, hg, fun j v hv => by
        have hj : j < 5 := (List.getElem?_eq_some_iff.1 hv).1
        rw [hat j hj]; exact hv, g0, g1, g2, g3, g4, fun n hn => hw n (.inr (.inr (.inr (.inl hn)))), fun n hn => hw n (.inr (.inr (.inr (.inr (.inl hn)))))⟩
end
set_option maxRecDepth 100000 in
theorem tw_open {H : Type} {enc : TypeId × Value → H} {w : World} {v : Value} {d : DataW H} {ps : List MemPlace} {r : Reach} {b0 : Nat} (hv : Value.okWide Tryz.prog w r b0 54 v) (h : DataW.Trod enc Tryz.prog w 0 (fun _ => true) true 54 v d ps)
    (hz : ∀ n ∈ d.weights Tryz.prog 54, n ≤ reachBytes) : ∃ A cap l, v = .slice A l.length cap ∧ l.length ≤ maxLen ∧ Row5 w A l ∧ l.length ≤ cap := by
  obtain ⟨A, len, cap, rfl⟩ := okWide_slice Tryz.underlying54 hv
  obtain ⟨fuel, hf⟩ := h
  obtain ⟨hc, hm, each⟩ := open_row5 Tryz.underlying54 Tryz.underlying56 (by kernel_rfl) ⟨rfl, rfl, rfl, rfl, rfl⟩ ⟨by kernel_rfl, by kernel_rfl, by kernel_rfl, by kernel_rfl, by kernel_rfl⟩ hf
  obtain ⟨l, hl, hX⟩ := list_of (α := Tx5) (Q := fun i x => ∃ g o, A = some ⟨g, o, none⟩ ∧ g < w.heap.size ∧ (∀ (j : Nat) v, x.cells[j]? = some v → w.cell? ⟨g, o + i * 5 + j, none⟩ = some v) ∧ x.Fine) (fun i hi => by
    obtain ⟨g, o, n, c0, c1, c2, c3, c4, y0, y1, y2, y3, y4, hA, hg, hat, t0, t1, t2, t3, t4, w3w, w4w⟩ := each i hi
    obtain ⟨z0, e0, _, w0⟩ := DataW.trod_int Tryz.underlying3 t0
    obtain ⟨z1, e1, _, w1⟩ := DataW.trod_int Tryz.underlying3 t1
    obtain ⟨z2, e2, _, w2⟩ := DataW.trod_int Tryz.underlying3 t2
    obtain ⟨z3, e3, d3, w3⟩ := DataW.trod_string Tryz.underlying9 t3
    obtain ⟨z4, e4, d4, w4⟩ := DataW.trod_string Tryz.underlying9 t4
    simp only [List.cons.injEq, and_true] at e0 e1 e2 e3 e4
    subst e0 e1 e2 e3 e4
    have hs3 : z3.size ≤ reachBytes := by
      have := hz z3.data.toList.length (w3w _ (by rw [d3]; simp [DataW.weights]))
      rwa [← Lib.size_eq] at this
    have hs4 : z4.size ≤ reachBytes := by
      have := hz z4.data.toList.length (w4w _ (by rw [d4]; simp [DataW.weights]))
      rwa [← Lib.size_eq] at this
    exact ⟨⟨z0, z1, z2, z3, z4⟩, g, o, hA, hg, hat, i64_wf w0, i64_wf w1, i64_wf w2, hs3, hs4⟩)
  exact ⟨A, cap, l, by rw [hl], by rw [hl]; exact hm, hX, by rw [hl]; exact hc⟩
end Go.Proofs.YtemfcaaoobjgkaaGreatDoor
