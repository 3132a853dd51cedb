/- Both disks: one call; what it means. -/
import Derived.Test.YtdgljfoghonbaaaDkSame
namespace Go.Proofs.Ytdgljfoghonbaaa
open Go.RowKit DK

/-- A call whose numbers lie below B, and stay. -/
structure TxB (B : Nat) (w : World) (x : Tx) : Prop where
  d : I64 x.d
  f : I64 x.f
  n : I64 x.n
  l : x.k.length ≤ maxLen
  c : x.k.length ≤ x.cap
  k : ∀ W, Below B w W → Ints W x.A x.k
  g : x.k ≠ [] → ∀ g o, x.A = some ⟨g, o, none⟩ → g < B
theorem TxB.of {w0 w : World} {x : Tx} {B : Nat} (hF : x.Fine w0) (hB : w0.heap.size ≤ B) (hb : Below w0.heap.size w0 w) : TxB B w x where
  d := hF.1
  f := hF.2.1
  n := hF.2.2.1
  l := hF.2.2.2.2.1
  c := hF.2.2.2.2.2
  k := fun W hW => hF.2.2.2.1.below (hb.trans (hW.mono hB))
  g := fun hne g o e => by
    match hl : x.k with
    | [] => exact absurd hl hne
    | z :: l =>
      obtain ⟨-, g', o', e', hg', -⟩ := hF.2.2.2.1 0 z (by rw [hl]; rfl)
      rw [e] at e'
      injection e' with e'
      injection e' with e1 _
      omega
theorem ref_le (D : Dv) (f : Int) : 0 ≤ D.ref f ∧ D.ref f ≤ 255 := by unfold Dv.ref; (repeat' split) <;> omega
theorem find_le (R : Rv) (f : Int) : 0 ≤ R.find f ∧ R.find f ≤ 255 := by unfold Rv.find; (repeat' split) <;> omega
theorem chgC_le (D : Dv) : 0 ≤ D.chgC ∧ D.chgC ≤ 255 := by unfold Dv.chgC; (repeat' split) <;> omega
theorem syncC_le (D : Dv) (f : Int) : 0 ≤ D.syncC f ∧ D.syncC f ≤ 255 := by
  have := ref_le D f
  have := chgC_le D
  unfold Dv.syncC
  split <;> omega
theorem appC_le (D : Dv) (f : Int) (s : List UInt8) : 0 ≤ D.appC f s ∧ D.appC f s ≤ 255 := by
  have := ref_le D f
  have := chgC_le D
  unfold Dv.appC
  (repeat' split) <;> omega
theorem codes_wrap {c : Int} (h : 0 ≤ c ∧ c ≤ 255) : IntKind.i64.wrap c = c := by rw [IntKind.wrap_i64]; omega
theorem Tx.s5_le (x : Tx) : x.s5.size ≤ 500 := by
  unfold Tx.s5
  rw [ByteArray.size_extract]
  omega
/-- What a call of act answers. -/
def ActP (B d r : Nat) (D : Dv) (R : Rv) (x : Tx) (w : World) (e : Ending) (w' : World) : Prop := ∃ b, e = .returned (.bool b) ∧ (Sim D R → b = true) ∧ Both B d r (D.act x) (R.act x) w' ∧ Below B w w'
/-- Both disks and the call's own copy of what it is handed, between the calls of act. -/
structure BQ (B d r : Nat) (w : World) (x : Tx) (D : Dv) (R : Rv) (W : World) : Prop where
  hd : B ≤ d
  hr : B ≤ r
  ne : d ≠ r
  dk : Dk d D W
  rk : Rk r R W
  bel : Below B w W
  p : W.heap[w.heap.size]? = some (.cells #[.int .i64 x.d, .int .i64 x.f, .int .i64 x.n, .string x.s5, .slice x.A x.k4.length x.cap] 31 (0, 0))
theorem BQ.pd {B d r : Nat} {w : World} {x : Tx} {D : Dv} {R : Rv} {W : World} (h : BQ B d r w x D R W) : w.heap.size ≠ d ∧ w.heap.size ≠ r := by
  refine ⟨h.dk.ne h.p (by decide), fun e => ?_⟩
  obtain ⟨vk, hr, -⟩ := h.rk
  have hp := h.p
  rw [e, hr] at hp
  injection hp with hp
  injection hp with _ hp _
  exact absurd hp (by decide)
theorem BQ.prog {B d r : Nat} {w : World} {x : Tx} {D D' : Dv} {R : Rv} {W W' : World} (h : BQ B d r w x D R W) (hd : Dk d D' W') (hk : Kt 5 d W W') : BQ B d r w x D' R W' :=
  ⟨h.hd, h.hr, h.ne, hd, rk_keep h.dk h.rk h.ne hk, h.bel.trans (hk.1.mono h.hd), hk.block h.p h.pd.1 (by decide)⟩
theorem BQ.doc {B d r : Nat} {w : World} {x : Tx} {D : Dv} {R R' : Rv} {W W' : World} (h : BQ B d r w x D R W) (hr : Rk r R' W') (hk : Kt 3 r W W') : BQ B d r w x D R' W' :=
  ⟨h.hd, h.hr, h.ne, dk_keep h.dk h.rk h.ne hk, hr, h.bel.trans (hk.1.mono h.hr), hk.block h.p h.pd.2 (by decide)⟩
theorem BQ.drew {B d r : Nat} {w : World} {x : Tx} {D : Dv} {R : Rv} {W : World} (h : BQ B d r w x D R W) : BQ B d r w x D R W.drew := ⟨h.hd, h.hr, h.ne, h.dk, h.rk, h.bel.trans (drew_below _ _), h.p⟩
theorem BQ.reads {B d r : Nat} {w : World} {x : Tx} {D : Dv} {R : Rv} {W : World} (h : BQ B d r w x D R W) {s5 : ByteArray} {q : Nat} (hs : x.s5 = s5) (hq : x.k4.length = q) :
    W.cell? ⟨w.heap.size, 0, none⟩ = some (.int .i64 x.d) ∧ W.cell? ⟨w.heap.size, 1, none⟩ = some (.int .i64 x.f) ∧ W.cell? ⟨w.heap.size, 2, none⟩ = some (.int .i64 x.n) ∧ W.cell? ⟨w.heap.size, 3, none⟩ = some (.string s5) ∧ W.cell? ⟨w.heap.size, 4, none⟩ = some (.slice x.A q x.cap) := by
  subst hs hq
  refine ⟨?_, ?_, ?_, ?_, ?_⟩ <;> (rw [cell_heap h.p]; rfl)
theorem Both.bq {B d r : Nat} {D : Dv} {R : Rv} {w : World} (h : Both B d r D R w) (x : Tx) (s5 : ByteArray) (q : Nat) (W0 : World) (hW : W0 = (w.alloc (.cells #[.int .i64 x.d, .int .i64 x.f, .int .i64 x.n, .string s5, .slice x.A q x.cap] 31)).drew) (hs : x.s5 = s5) (hq : x.k4.length = q) : BQ B d r w x D R W0 := by
  subst hW hs hq
  have hb : Below w.heap.size w (w.alloc (.cells #[.int .i64 x.d, .int .i64 x.f, .int .i64 x.n, .string x.s5, .slice x.A x.k4.length x.cap] 31)).drew := ((Below.refl _ _).alloc (Nat.le_refl _) _).drew
  exact ⟨h.hd, h.hr, h.ne, h.dk.below hb, h.rk.below hb, hb.mono (Nat.le_of_lt (Nat.lt_of_le_of_lt h.hd h.dk.lt)), heap_alloc_new w _⟩
theorem TxB.k4 {B : Nat} {w : World} {x : Tx} (_ : TxB B w x) (_ : Dv) : ∃ (m q : Nat) (s5 : ByteArray), (if (500 : Int) < (x.s.size : Int) then (500 : Int) else (x.s.size : Int)) = (m : Int) ∧ m ≤ x.s.size ∧ x.s.extract 0 m = s5 ∧ (if (4 : Int) < (x.k.length : Int) then (4 : Int) else (x.k.length : Int)) = (q : Int) ∧ q ≤ x.k.length ∧ (x.s5 = s5 ∧ x.k4.length = q) :=
  ⟨min x.s.size 500, min x.k.length 4, _, by split <;> omega, by omega, rfl, by split <;> omega, by omega, rfl, by unfold Tx.k4; rw [List.length_take]; omega⟩
theorem TxB.len4 {B : Nat} {w : World} {x : Tx} (_ : TxB B w x) : x.k4.length ≤ maxLen := by have := x.k4_le; unfold maxLen; omega
theorem TxB.ints4 {B : Nat} {w : World} {x : Tx} (h : TxB B w x) {W : World} (hW : Below B w W) : Ints W x.A x.k4 := (h.k W hW).take 4
theorem TxB.kints {B d r : Nat} {w : World} {x : Tx} (h : TxB B w x) {D : Dv} {R : Rv} {W : World} (hb : BQ B d r w x D R W) : KInts d W x.A x.k4 := fun _ hk => h.ints4 (hb.bel.trans (hk.1.mono hb.hd))
theorem TxB.rints {B d r : Nat} {w : World} {x : Tx} (h : TxB B w x) {D : Dv} {R : Rv} {W : World} (hb : BQ B d r w x D R W) : ∀ w', Kt 3 r W w' → Ints w' x.A x.k4 := fun _ hk => h.ints4 (hb.bel.trans (hk.1.mono hb.hr))
theorem TxB.aints {B d r : Nat} {w : World} {x : Tx} (h : TxB B w x) {D : Dv} {R : Rv} {W : World} (hb : BQ B d r w x D R W) : AInts r W x.A x.k4 := ⟨h.ints4 hb.bel, fun hn g o e => by have := h.g (fun e => hn (by unfold Tx.k4; rw [e]; rfl)) g o e; have := hb.hr; omega⟩
theorem TxB.i64s {B : Nat} {w : World} {x : Tx} (h : TxB B w x) : ∀ z ∈ x.k4, I64 z := fun z hz => by
  obtain ⟨i, hi⟩ := List.mem_iff_getElem?.1 hz
  exact (h.ints4 (Below.refl _ _) i z hi).1
end Go.Proofs.Ytdgljfoghonbaaa
