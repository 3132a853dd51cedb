/- The laws' argument, opened: a row of packets as plain data (layer 6's own type). -/
import Derived.Test.YtlfgndhdifpngaaGreatDoorMD
namespace Go.Proofs.YtlfgndhdifpngaaGreatDoor
open Go.RowKit Go.ChangeShapes Go.WideShapes Go.Deep

set_option maxRecDepth 100000 in
set_option maxHeartbeats 1000000 in
theorem open_pcells6 {H : Type} {enc : TypeId × Value → H} {w : World} {base : Nat} {spare : Nat → Bool} {held : Bool} {fuel : Nat} {d : DataW H} {ps : List MemPlace} (cs : Array Value) (hsz' : cs.size = 26) (hf : DataW.trod enc Tryz.prog w base spare held fuel 66 cs.toList = some (d, ps)) (hz : ∀ n ∈ d.weights Tryz.prog 66, n ≤ reachBytes) :
    ∃ X Ac Ap Aw As Af cc cp cw csz cf, cs = pkCells X (.slice Ac X.codes.length cc) (.slice Ap X.props.length cp) (.slice Aw X.wprops.length cw) (.slice As X.subs.length csz) (.slice Af X.filters.length cf) ∧ ArgX w X Ac Ap Aw As Af cc cp cw csz cf := by
  obtain ⟨xs, n, _, hD, _, hxl, hfl⟩ := DataW.trod_struct Tryz.underlying66 hf
  have hd : d = .agg (xs.map (·.1)) := congrArg Prod.fst hD
  have hwt : ∀ (j : Nat) (y : DataW H × List MemPlace) (t : TypeId), xs[j]? = some y → (Tryz.prog.underlying 66).bind (fun u => match u with | .struct fs => (fs.toList.map (·.type))[j]? | _ => none) = some t → ∀ n ∈ y.1.weights Tryz.prog t, n ∈ d.weights Tryz.prog 66 := fun j y t hy ht n hn => by
    rw [hd]
    simp only [DataW.weights]
    rw [Tryz.underlying66] at ht ⊢
    exact DataW.weights_mem_each (j := j) ht (by rw [List.getElem?_map, hy]; rfl) n hn
  obtain ⟨y0, e0⟩ : ∃ y, xs[0]? = some y := ⟨xs[0]'(by rw [hxl]; decide), List.getElem?_eq_getElem _⟩
  have f0 := (hfl 0 _ rfl).trans e0
  have WT0 := hwt 0 _ 3 e0 (by rw [Tryz.underlying66]; rfl)
  obtain ⟨z0, q0, _, w0⟩ := DataW.trod_int Tryz.underlying3 f0
  have c0 : cs.toList[0]? = _ := take_at q0
  obtain ⟨y1, e1⟩ : ∃ y, xs[1]? = some y := ⟨xs[1]'(by rw [hxl]; decide), List.getElem?_eq_getElem _⟩
  have f1 := (hfl 1 _ rfl).trans e1
  have WT1 := hwt 1 _ 4 e1 (by rw [Tryz.underlying66]; rfl)
  obtain ⟨z1, q1, _⟩ := DataW.trod_bool Tryz.underlying4 f1
  have c1 : cs.toList[1]? = _ := take_at q1
  obtain ⟨y2, e2⟩ : ∃ y, xs[2]? = some y := ⟨xs[2]'(by rw [hxl]; decide), List.getElem?_eq_getElem _⟩
  have f2 := (hfl 2 _ rfl).trans e2
  have WT2 := hwt 2 _ 4 e2 (by rw [Tryz.underlying66]; rfl)
  obtain ⟨z2, q2, _⟩ := DataW.trod_bool Tryz.underlying4 f2
  have c2 : cs.toList[2]? = _ := take_at q2
  obtain ⟨y3, e3⟩ : ∃ y, xs[3]? = some y := ⟨xs[3]'(by rw [hxl]; decide), List.getElem?_eq_getElem _⟩
  have f3 := (hfl 3 _ rfl).trans e3
  have WT3 := hwt 3 _ 3 e3 (by rw [Tryz.underlying66]; rfl)
  obtain ⟨z3, q3, _, w3⟩ := DataW.trod_int Tryz.underlying3 f3
  have c3 : cs.toList[3]? = _ := take_at q3
  obtain ⟨y4, e4⟩ : ∃ y, xs[4]? = some y := ⟨xs[4]'(by rw [hxl]; decide), List.getElem?_eq_getElem _⟩
  have f4 := (hfl 4 _ rfl).trans e4
  have WT4 := hwt 4 _ 3 e4 (by rw [Tryz.underlying66]; rfl)
  obtain ⟨z4, q4, _, w4⟩ := DataW.trod_int Tryz.underlying3 f4
  have c4 : cs.toList[4]? = _ := take_at q4
  obtain ⟨y5, e5⟩ : ∃ y, xs[5]? = some y := ⟨xs[5]'(by rw [hxl]; decide), List.getElem?_eq_getElem _⟩
  have f5 := (hfl 5 _ rfl).trans e5
  have WT5 := hwt 5 _ 9 e5 (by rw [Tryz.underlying66]; rfl)
  obtain ⟨z5, q5, d5, _⟩ := DataW.trod_string Tryz.underlying9 f5
  have c5 : cs.toList[5]? = _ := take_at q5
  have s5 : Short z5 := str_short d5 WT5 hz
  obtain ⟨y6, e6⟩ : ∃ y, xs[6]? = some y := ⟨xs[6]'(by rw [hxl]; decide), List.getElem?_eq_getElem _⟩
  have f6 := (hfl 6 _ rfl).trans e6
  have WT6 := hwt 6 _ 9 e6 (by rw [Tryz.underlying66]; rfl)
  obtain ⟨z6, q6, d6, _⟩ := DataW.trod_string Tryz.underlying9 f6
  have c6 : cs.toList[6]? = _ := take_at q6
  have s6 : Short z6 := str_short d6 WT6 hz
  obtain ⟨y7, e7⟩ : ∃ y, xs[7]? = some y := ⟨xs[7]'(by rw [hxl]; decide), List.getElem?_eq_getElem _⟩
  have f7 := (hfl 7 _ rfl).trans e7
  have WT7 := hwt 7 _ 5 e7 (by rw [Tryz.underlying66]; rfl)
  obtain ⟨z7, q7, _, w7⟩ := DataW.trod_int Tryz.underlying5 f7
  have c7 : cs.toList[7]? = _ := take_at q7
  obtain ⟨y8, e8⟩ : ∃ y, xs[8]? = some y := ⟨xs[8]'(by rw [hxl]; decide), List.getElem?_eq_getElem _⟩
  have f8 := (hfl 8 _ rfl).trans e8
  have WT8 := hwt 8 _ 60 e8 (by rw [Tryz.underlying66]; rfl)
  obtain ⟨A8, n8, k8, q8⟩ := slice_form Tryz.underlying60 f8
  have c8 : cs.toList[8]? = _ := take_at q8
  rw [q8] at f8
  obtain ⟨l8, hl8, hm8, hc8, hR8, hF8⟩ := open_codes f8
  obtain ⟨y9, e9⟩ : ∃ y, xs[9]? = some y := ⟨xs[9]'(by rw [hxl]; decide), List.getElem?_eq_getElem _⟩
  have f9 := (hfl 9 _ rfl).trans e9
  have WT9 := hwt 9 _ 61 e9 (by rw [Tryz.underlying66]; rfl)
  obtain ⟨A9, n9, k9, q9⟩ := slice_form Tryz.underlying61 f9
  have c9 : cs.toList[9]? = _ := take_at q9
  rw [q9] at f9
  obtain ⟨l9, hl9, hm9, hc9, hR9, hF9⟩ := open_props56 f9 (fun n hn => hz n (WT9 n hn))
  obtain ⟨y10, e10⟩ : ∃ y, xs[10]? = some y := ⟨xs[10]'(by rw [hxl]; decide), List.getElem?_eq_getElem _⟩
  have f10 := (hfl 10 _ rfl).trans e10
  have WT10 := hwt 10 _ 9 e10 (by rw [Tryz.underlying66]; rfl)
  obtain ⟨z10, q10, d10, _⟩ := DataW.trod_string Tryz.underlying9 f10
  have c10 : cs.toList[10]? = _ := take_at q10
  have s10 : Short z10 := str_short d10 WT10 hz
  obtain ⟨y11, e11⟩ : ∃ y, xs[11]? = some y := ⟨xs[11]'(by rw [hxl]; decide), List.getElem?_eq_getElem _⟩
  have f11 := (hfl 11 _ rfl).trans e11
  have WT11 := hwt 11 _ 4 e11 (by rw [Tryz.underlying66]; rfl)
  obtain ⟨z11, q11, _⟩ := DataW.trod_bool Tryz.underlying4 f11
  have c11 : cs.toList[11]? = _ := take_at q11
  obtain ⟨y12, e12⟩ : ∃ y, xs[12]? = some y := ⟨xs[12]'(by rw [hxl]; decide), List.getElem?_eq_getElem _⟩
  have f12 := (hfl 12 _ rfl).trans e12
  have WT12 := hwt 12 _ 3 e12 (by rw [Tryz.underlying66]; rfl)
  obtain ⟨z12, q12, _, w12⟩ := DataW.trod_int Tryz.underlying3 f12
  have c12 : cs.toList[12]? = _ := take_at q12
  obtain ⟨y13, e13⟩ : ∃ y, xs[13]? = some y := ⟨xs[13]'(by rw [hxl]; decide), List.getElem?_eq_getElem _⟩
  have f13 := (hfl 13 _ rfl).trans e13
  have WT13 := hwt 13 _ 4 e13 (by rw [Tryz.underlying66]; rfl)
  obtain ⟨z13, q13, _⟩ := DataW.trod_bool Tryz.underlying4 f13
  have c13 : cs.toList[13]? = _ := take_at q13
  obtain ⟨y14, e14⟩ : ∃ y, xs[14]? = some y := ⟨xs[14]'(by rw [hxl]; decide), List.getElem?_eq_getElem _⟩
  have f14 := (hfl 14 _ rfl).trans e14
  have WT14 := hwt 14 _ 63 e14 (by rw [Tryz.underlying66]; rfl)
  obtain ⟨xw, nw, _, hDw, _, hxwl, hfw⟩ := DataW.trod_struct Tryz.underlying63 f14
  have hwtw : ∀ (i : Nat) (y : DataW H × List MemPlace) (t : TypeId), xw[i]? = some y → (Tryz.prog.underlying 63).bind (fun u => match u with | .struct fs => (fs.toList.map (·.type))[i]? | _ => none) = some t → ∀ n ∈ y.1.weights Tryz.prog t, n ∈ d.weights Tryz.prog 66 := fun i y t hy ht n hn => by
    refine WT14 n ?_
    rw [hDw]
    simp only [DataW.weights]
    rw [Tryz.underlying63] at ht ⊢
    exact DataW.weights_mem_each (j := i) ht (by rw [List.getElem?_map, hy]; rfl) n hn
  obtain ⟨yw0, ew0⟩ : ∃ y, xw[0]? = some y := ⟨xw[0]'(by rw [hxwl]; decide), List.getElem?_eq_getElem _⟩
  have fw0 := (hfw 0 _ rfl).trans ew0
  have WTw0 := hwtw 0 _ 9 ew0 (by rw [Tryz.underlying63]; rfl)
  obtain ⟨zw0, qw0, dw0, _⟩ := DataW.trod_string Tryz.underlying9 fw0
  have cw0 : cs.toList[14]? = _ := take_in rfl (take_at qw0)
  have sw0 : Short zw0 := str_short dw0 WTw0 hz
  obtain ⟨yw1, ew1⟩ : ∃ y, xw[1]? = some y := ⟨xw[1]'(by rw [hxwl]; decide), List.getElem?_eq_getElem _⟩
  have fw1 := (hfw 1 _ rfl).trans ew1
  have WTw1 := hwtw 1 _ 9 ew1 (by rw [Tryz.underlying63]; rfl)
  obtain ⟨zw1, qw1, dw1, _⟩ := DataW.trod_string Tryz.underlying9 fw1
  have cw1 : cs.toList[15]? = _ := take_in rfl (take_at qw1)
  have sw1 : Short zw1 := str_short dw1 WTw1 hz
  obtain ⟨yw2, ew2⟩ : ∃ y, xw[2]? = some y := ⟨xw[2]'(by rw [hxwl]; decide), List.getElem?_eq_getElem _⟩
  have fw2 := (hfw 2 _ rfl).trans ew2
  have WTw2 := hwtw 2 _ 3 ew2 (by rw [Tryz.underlying63]; rfl)
  obtain ⟨zw2, qw2, _, ww2⟩ := DataW.trod_int Tryz.underlying3 fw2
  have cw2 : cs.toList[16]? = _ := take_in rfl (take_at qw2)
  obtain ⟨yw3, ew3⟩ : ∃ y, xw[3]? = some y := ⟨xw[3]'(by rw [hxwl]; decide), List.getElem?_eq_getElem _⟩
  have fw3 := (hfw 3 _ rfl).trans ew3
  have WTw3 := hwtw 3 _ 4 ew3 (by rw [Tryz.underlying63]; rfl)
  obtain ⟨zw3, qw3, _⟩ := DataW.trod_bool Tryz.underlying4 fw3
  have cw3 : cs.toList[17]? = _ := take_in rfl (take_at qw3)
  obtain ⟨yw4, ew4⟩ : ∃ y, xw[4]? = some y := ⟨xw[4]'(by rw [hxwl]; decide), List.getElem?_eq_getElem _⟩
  have fw4 := (hfw 4 _ rfl).trans ew4
  have WTw4 := hwtw 4 _ 61 ew4 (by rw [Tryz.underlying63]; rfl)
  obtain ⟨Aw4, nw4, kw4, qw4⟩ := slice_form Tryz.underlying61 fw4
  have cw4 : cs.toList[18]? = _ := take_in rfl (take_at qw4)
  rw [qw4] at fw4
  obtain ⟨lw4, hlw4, hmw4, hcw4, hRw4, hFw4⟩ := open_props56 fw4 (fun n hn => hz n (WTw4 n hn))
  obtain ⟨y15, e15⟩ : ∃ y, xs[15]? = some y := ⟨xs[15]'(by rw [hxl]; decide), List.getElem?_eq_getElem _⟩
  have f15 := (hfl 15 _ rfl).trans e15
  have WT15 := hwt 15 _ 4 e15 (by rw [Tryz.underlying66]; rfl)
  obtain ⟨z15, q15, _⟩ := DataW.trod_bool Tryz.underlying4 f15
  have c15 : cs.toList[19]? = _ := take_at q15
  obtain ⟨y16, e16⟩ : ∃ y, xs[16]? = some y := ⟨xs[16]'(by rw [hxl]; decide), List.getElem?_eq_getElem _⟩
  have f16 := (hfl 16 _ rfl).trans e16
  have WT16 := hwt 16 _ 4 e16 (by rw [Tryz.underlying66]; rfl)
  obtain ⟨z16, q16, _⟩ := DataW.trod_bool Tryz.underlying4 f16
  have c16 : cs.toList[20]? = _ := take_at q16
  obtain ⟨y17, e17⟩ : ∃ y, xs[17]? = some y := ⟨xs[17]'(by rw [hxl]; decide), List.getElem?_eq_getElem _⟩
  have f17 := (hfl 17 _ rfl).trans e17
  have WT17 := hwt 17 _ 9 e17 (by rw [Tryz.underlying66]; rfl)
  obtain ⟨z17, q17, d17, _⟩ := DataW.trod_string Tryz.underlying9 f17
  have c17 : cs.toList[21]? = _ := take_at q17
  have s17 : Short z17 := str_short d17 WT17 hz
  obtain ⟨y18, e18⟩ : ∃ y, xs[18]? = some y := ⟨xs[18]'(by rw [hxl]; decide), List.getElem?_eq_getElem _⟩
  have f18 := (hfl 18 _ rfl).trans e18
  have WT18 := hwt 18 _ 9 e18 (by rw [Tryz.underlying66]; rfl)
  obtain ⟨z18, q18, d18, _⟩ := DataW.trod_string Tryz.underlying9 f18
  have c18 : cs.toList[22]? = _ := take_at q18
  have s18 : Short z18 := str_short d18 WT18 hz
  obtain ⟨y19, e19⟩ : ∃ y, xs[19]? = some y := ⟨xs[19]'(by rw [hxl]; decide), List.getElem?_eq_getElem _⟩
  have f19 := (hfl 19 _ rfl).trans e19
  have WT19 := hwt 19 _ 4 e19 (by rw [Tryz.underlying66]; rfl)
  obtain ⟨z19, q19, _⟩ := DataW.trod_bool Tryz.underlying4 f19
  have c19 : cs.toList[23]? = _ := take_at q19
  obtain ⟨y20, e20⟩ : ∃ y, xs[20]? = some y := ⟨xs[20]'(by rw [hxl]; decide), List.getElem?_eq_getElem _⟩
  have f20 := (hfl 20 _ rfl).trans e20
  have WT20 := hwt 20 _ 64 e20 (by rw [Tryz.underlying66]; rfl)
  obtain ⟨A20, n20, k20, q20⟩ := slice_form Tryz.underlying64 f20
  have c20 : cs.toList[24]? = _ := take_at q20
  rw [q20] at f20
  obtain ⟨l20, hl20, hm20, hc20, hR20, hF20⟩ := open_subs56 f20 (fun n hn => hz n (WT20 n hn))
  obtain ⟨y21, e21⟩ : ∃ y, xs[21]? = some y := ⟨xs[21]'(by rw [hxl]; decide), List.getElem?_eq_getElem _⟩
  have f21 := (hfl 21 _ rfl).trans e21
  have WT21 := hwt 21 _ 29 e21 (by rw [Tryz.underlying66]; rfl)
  obtain ⟨A21, n21, k21, q21⟩ := slice_form Tryz.underlying29 f21
  have c21 : cs.toList[25]? = _ := take_at q21
  rw [q21] at f21
  obtain ⟨l21, hl21, hm21, hc21, hR21, hF21⟩ := open_texts5 f21 (fun n hn => hz n (WT21 n hn))
  refine ⟨⟨z0, z1, z2, z3, z4, z5, z6, z7, l8, l9, z10, z11, z12, z13, zw0, zw1, zw2, zw3, lw4, z15, z16, z17, z18, z19, l20, l21⟩, A8, A9, Aw4, A20, A21, k8, k9, kw4, k20, k21, ?_, ?_⟩
  · exact (show cs = pkCells ⟨z0, z1, z2, z3, z4, z5, z6, z7, l8, l9, z10, z11, z12, z13, zw0, zw1, zw2, zw3, lw4, z15, z16, z17, z18, z19, l20, l21⟩ (.slice A8 l8.length k8) (.slice A9 l9.length k9) (.slice Aw4 lw4.length kw4) (.slice A20 l20.length k20) (.slice A21 l21.length k21) from pk_ext hsz' (fun i hi => by
      rw [hl8, hl9, hlw4, hl20, hl21]
      match i, hi with
      | 0, _ => exact c0
      | 1, _ => exact c1
      | 2, _ => exact c2
      | 3, _ => exact c3
      | 4, _ => exact c4
      | 5, _ => exact c5
      | 6, _ => exact c6
      | 7, _ => exact c7
      | 8, _ => exact c8
      | 9, _ => exact c9
      | 10, _ => exact c10
      | 11, _ => exact c11
      | 12, _ => exact c12
      | 13, _ => exact c13
      | 14, _ => exact cw0
      | 15, _ => exact cw1
      | 16, _ => exact cw2
      | 17, _ => exact cw3
      | 18, _ => exact cw4
      | 19, _ => exact c15
      | 20, _ => exact c16
      | 21, _ => exact c17
      | 22, _ => exact c18
      | 23, _ => exact c19
      | 24, _ => exact c20
      | 25, _ => exact c21
      | k + 26, h => exact absurd h (by omega)))
  · refine ⟨hR8, hR9, hRw4, hR20, hR21, ?_, ?_, ?_, ?_, ?_, ?_⟩
    · show l8.length ≤ _ ∧ l8.length ≤ _; rw [hl8]; exact ⟨hm8, hc8⟩
    · show l9.length ≤ _ ∧ l9.length ≤ _; rw [hl9]; exact ⟨hm9, hc9⟩
    · show lw4.length ≤ _ ∧ lw4.length ≤ _; rw [hlw4]; exact ⟨hmw4, hcw4⟩
    · show l20.length ≤ _ ∧ l20.length ≤ _; rw [hl20]; exact ⟨hm20, hc20⟩
    · show l21.length ≤ _ ∧ l21.length ≤ _; rw [hl21]; exact ⟨hm21, hc21⟩
    · exact ⟨i64_wf w0, i64_wf w3, i64_wf w4, s5, s6, u8_wf w7, s10, i64_wf w12, sw0, sw1, i64_wf ww2, s17, s18, hF8, hF20, hF21, hF9, hFw4⟩
/-- A packet of an argument's row. -/
structure PX where
  X : Pk
  Ac : Option Addr
  Ap : Option Addr
  Aw : Option Addr
  As : Option Addr
  Af : Option Addr
  cc : Nat
  cp : Nat
  cw : Nat
  cs : Nat
  cf : Nat
instance : Inhabited PX := ⟨⟨PK.zeroPk, none, none, none, none, none, 0, 0, 0, 0, 0⟩⟩
def PX.cells (x : PX) : Array Value := pkCells x.X (.slice x.Ac x.X.codes.length x.cc) (.slice x.Ap x.X.props.length x.cp) (.slice x.Aw x.X.wprops.length x.cw) (.slice x.As x.X.subs.length x.cs) (.slice x.Af x.X.filters.length x.cf)
def PX.Arg (x : PX) (w : World) : Prop := ArgX w x.X x.Ac x.Ap x.Aw x.As x.Af x.cc x.cp x.cw x.cs x.cf
/-- A row of packets. -/
def RowX (w : World) (A : Option Addr) (l : List PX) : Prop := ∀ (i : Nat) x, l[i]? = some x → ∃ g o, A = some ⟨g, o, none⟩ ∧ g < w.heap.size ∧ (∀ (j : Nat) v, x.cells.toList[j]? = some v → w.cell? ⟨g, o + i * 26 + j, none⟩ = some v) ∧ x.Arg w
set_option maxRecDepth 100000 in
theorem open_packets6 {H : Type} {enc : TypeId × Value → H} {w : World} {v : Value} {d : DataW H} {ps : List MemPlace} {r : Reach} {b0 : Nat} (hv : Value.okWide Tryz.prog w r b0 59 v) (h : DataW.Trod enc Tryz.prog w 0 (fun _ => true) true 59 v d ps)
    (hz : ∀ n ∈ d.weights Tryz.prog 59, n ≤ reachBytes) : ∃ A cap l, v = .slice A l.length cap ∧ l.length ≤ maxLen ∧ RowX w A l ∧ l.length ≤ cap := by
  obtain ⟨A, len, cap, rfl⟩ := okWide_slice Tryz.underlying59 hv
  obtain ⟨fuel, hf⟩ := h
  obtain ⟨hc, hm, each⟩ := open_rowC Tryz.underlying59 (C := 26) (by kernel_rfl) (by decide) (show DataW.trod enc Tryz.prog w 0 (fun _ => true) true fuel 59 [.slice A len cap] = some (d, ps) from hf)
  obtain ⟨l, hl, hX⟩ := list_of (α := PX) (Q := fun i x => ∃ g o, A = some ⟨g, o, none⟩ ∧ g < w.heap.size ∧ (∀ (j : Nat) v, x.cells.toList[j]? = some v → w.cell? ⟨g, o + i * 26 + j, none⟩ = some v) ∧ x.Arg w) (fun i hi => by
    obtain ⟨g, o, n, cs, y, hA, hlen, hat, ht, hw⟩ := each i hi
    obtain ⟨y1, y2⟩ := y
    obtain ⟨X, Ac, Ap, Aw, As, Af, cc, cp, cw, csz, cf, hcs, hArg⟩ := open_pcells6 cs.toArray (by simpa using hlen) (by simpa using ht) (fun n hn => hz n (hw n hn))
    refine ⟨⟨X, Ac, Ap, Aw, As, Af, cc, cp, cw, csz, cf⟩, g, o, hA, ?_, fun j v hv => ?_, hArg⟩
    · have h0 := hat 0 (by decide)
      rw [List.getElem?_eq_getElem (by omega)] at h0
      exact cell_lt' h0
    · have e : (PX.cells ⟨X, Ac, Ap, Aw, As, Af, cc, cp, cw, csz, cf⟩) = cs.toArray := hcs.symm
      rw [e] at hv
      have hj : j < cs.length := (List.getElem?_eq_some_iff.1 (by simpa using hv)).1
      rw [hat j (by omega)]
      simpa using hv)
  exact ⟨A, cap, l, by rw [hl], by rw [hl]; exact hm, hX, by rw [hl]; exact hc⟩
end Go.Proofs.YtlfgndhdifpngaaGreatDoor
