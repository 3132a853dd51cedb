/- The document's disk stays fine; what a call makes of both. -/
import Derived.Test.YtdgljfoghonbaaaDkOpen
import Derived.Test.YtdgljfoghonbaaaRkFace
namespace Go.Proofs.Ytdgljfoghonbaaa
open DK

/-- What is left of a call's text and numbers. -/
def Tx.s5 (x : Tx) : ByteArray := x.s.extract 0 (min x.s.size 500)
def Tx.k4 (x : Tx) : List Int := x.k.take 4
/-- What a call makes of the disk. -/
def DK.Dv.act (D : Dv) (x : Tx) : Dv :=
  if (x.d.tmod 9).natAbs = 1 then D.sync x.f else if (x.d.tmod 9).natAbs = 2 then D.clear x.f else if (x.d.tmod 9).natAbs = 3 then D else if (x.d.tmod 9).natAbs = 4 then D.asks x.n (numAt x.k4 0) (numAt x.k4 1) else
  if (x.d.tmod 9).natAbs = 5 then D.breaks x.n else if (x.d.tmod 9).natAbs = 6 then D.crash (numAt x.k4 0) (numAt x.k4 1) else if (x.d.tmod 9).natAbs = 7 then D.on else D.app x.f x.s5.data.toList
def DK.Rv.act (R : Rv) (x : Tx) : Rv :=
  if (x.d.tmod 9).natAbs = 1 then R.sync x.f else if (x.d.tmod 9).natAbs = 2 then R.clear x.f else if (x.d.tmod 9).natAbs = 3 then R else if (x.d.tmod 9).natAbs = 4 then R.ask x.n x.k4 else
  if (x.d.tmod 9).natAbs = 5 then R.breaks x.n else if (x.d.tmod 9).natAbs = 6 then R.crash (numAt x.k4 0) (numAt x.k4 1) else if (x.d.tmod 9).natAbs = 7 then R.on else R.app x.f x.s5.data.toList
/-- The document's disk is fine. -/
structure RFine (R : Rv) : Prop where
  a : R.a.l ≤ R.a.s.length
  b : R.b.l ≤ R.b.s.length
  sum : R.a.s.length + R.b.s.length ≤ R.lim
  lim : R.lim ≤ 16777216
  cut : I64 R.cut
  brk : I64 R.brk
  keep : ∀ z ∈ R.keep, I64 z
theorem RFine.ok2 {R : Rv} (h : RFine R) : ROk2 R := ⟨⟨h.a, h.b, by have := h.sum; have := h.lim; omega, by have := h.sum; have := h.lim; omega⟩, h.cut, h.brk, h.keep⟩
theorem RFine.new (lim : Int) : RFine (newR lim) := ⟨Nat.le_refl _, Nat.le_refl _, Nat.zero_le _, by show (min (max lim 0) 16777216).toNat ≤ 16777216; omega, by simp [newR, I64], by simp [newR, I64], by simp [newR]⟩
theorem RFine.on {R : Rv} (h : RFine R) : RFine R.on := ⟨h.a, h.b, h.sum, h.lim, by simp [Rv.on, I64], by simp [Rv.on, I64], by simp [Rv.on]⟩
theorem RFine.lose {R : Rv} (h : RFine R) (j k : Int) : RFine (R.lose j k) := by
  have a := Fl.lose_len h.a j
  have b := Fl.lose_len h.b k
  have a2 := Fl.at_le h.a j
  have b2 := Fl.at_le h.b k
  have s := h.sum
  refine ⟨?_, ?_, ?_, h.lim, by simp [Rv.lose, I64], by simp [Rv.lose, I64], by simp [Rv.lose]⟩
  · show (R.a.lose j).l ≤ (R.a.lose j).s.length; omega
  · show (R.b.lose k).l ≤ (R.b.lose k).s.length; omega
  · show (R.a.lose j).s.length + (R.b.lose k).s.length ≤ R.lim; omega
theorem RFine.crash {R : Rv} (h : RFine R) (j k : Int) : RFine (R.crash j k) := by
  unfold Rv.crash
  split
  · exact h.on
  · exact (h.lose j k).on
theorem RFine.ask {R : Rv} (h : RFine R) {n : Int} {l : List Int} (hn : I64 n) (hl : ∀ z ∈ l, I64 z) : RFine (R.ask n l) := ⟨h.a, h.b, h.sum, h.lim, by
  show I64 (if 0 < n then n else 0)
  split
  · exact hn
  · simp [I64], h.brk, hl⟩
theorem RFine.breaks {R : Rv} (h : RFine R) {n : Int} (hn : I64 n) : RFine (R.breaks n) := ⟨h.a, h.b, h.sum, h.lim, h.cut, by
  show I64 (if 0 < n then n else 0)
  split
  · exact hn
  · simp [I64], h.keep⟩
theorem RFine.stop {R : Rv} (h : RFine R) : RFine R.stopS := by
  obtain ⟨pa, pb, pl, pk⟩ := stopS_parts R
  have i1 := h.cut
  have i2 := h.brk
  refine ⟨by rw [pa]; exact h.a, by rw [pb]; exact h.b, by rw [pa, pb, pl]; exact h.sum, by rw [pl]; exact h.lim, ?_, ?_, by rw [pk]; exact h.keep⟩
  · have : R.stopS.cut = R.cut ∨ (0 < R.cut ∧ R.stopS.cut = R.cut - 1) := by
      unfold Rv.stopS Rv.cutd Rv.brkd
      by_cases x : R.cut = 1 <;> by_cases y : 0 < R.cut <;> by_cases z : 0 < R.brk <;> simp [x, y, z]
    unfold I64 at *
    omega
  · have : R.stopS.brk = R.brk ∨ (0 < R.brk ∧ R.stopS.brk = R.brk - 1) := by
      unfold Rv.stopS Rv.cutd Rv.brkd
      by_cases x : R.cut = 1 <;> by_cases y : 0 < R.cut <;> by_cases z : 0 < R.brk <;> simp [x, y, z]
    unfold I64 at *
    omega
theorem RFine.chg {R : Rv} (h : RFine R) {pre post : Rv → Rv} (h1 : RFine (pre R.stopS)) (h2 : RFine (post R.stopS)) : RFine (R.chg pre post) := by
  unfold Rv.chg
  split
  · exact h1.lose _ _
  · split
    · exact h.stop
    · exact h2
theorem RFine.upd {R : Rv} (h : RFine R) (i : Nat) (g : Fl → Fl) (hg : ∀ x : Fl, x.l ≤ x.s.length → (g x).l ≤ (g x).s.length ∧ (g x).s.length ≤ x.s.length) : RFine (Rv.upd i g R) := by
  have a := hg R.a h.a
  have b := hg R.b h.b
  have s := h.sum
  unfold Rv.upd
  split
  · exact ⟨a.1, h.b, by show (g R.a).s.length + R.b.s.length ≤ R.lim; omega, h.lim, h.cut, h.brk, h.keep⟩
  · exact ⟨h.a, b.1, by show R.a.s.length + (g R.b).s.length ≤ R.lim; omega, h.lim, h.cut, h.brk, h.keep⟩
theorem RFine.updApp {R : Rv} (h : RFine R) (i : Nat) (s : List UInt8) (hs : R.a.s.length + R.b.s.length + s.length ≤ R.lim) : RFine (Rv.upd i (Fl.app s) R) := by
  have ha := h.a
  have hb := h.b
  unfold Rv.upd
  split
  · exact ⟨by show R.a.l ≤ (R.a.s ++ s).length; rw [List.length_append]; omega, h.b, by show (R.a.s ++ s).length + R.b.s.length ≤ R.lim; rw [List.length_append]; omega, h.lim, h.cut, h.brk, h.keep⟩
  · exact ⟨h.a, by show R.b.l ≤ (R.b.s ++ s).length; rw [List.length_append]; omega, by show R.a.s.length + (R.b.s ++ s).length ≤ R.lim; rw [List.length_append]; omega, h.lim, h.cut, h.brk, h.keep⟩
theorem RFine.sync {R : Rv} (h : RFine R) (f : Int) : RFine (R.sync f) := by
  unfold Rv.sync
  split
  · exact h
  · exact h.chg h.stop (h.stop.upd _ _ fun x hx => ⟨Nat.le_refl _, Nat.le_refl _⟩)
theorem RFine.clear {R : Rv} (h : RFine R) (f : Int) : RFine (R.clear f) := by
  unfold Rv.clear
  split
  · exact h
  · exact h.chg h.stop (h.stop.upd _ _ fun x hx => ⟨Nat.le_refl _, Nat.zero_le _⟩)
theorem RFine.app {R : Rv} (h : RFine R) (f : Int) (s : List UInt8) : RFine (R.app f s) := by
  unfold Rv.app
  split
  · exact h
  · split
    · exact h
    · split
      · exact h
      · obtain ⟨pa, pb, pl, pk⟩ := stopS_parts R
        have := h.stop.updApp (ix f) s (by rw [pa, pb, pl]; omega)
        exact h.chg this this
theorem RFine.act {R : Rv} (h : RFine R) (x : Tx) (hn : I64 x.n) (hk : ∀ z ∈ x.k4, I64 z) : RFine (R.act x) := by
  unfold Rv.act
  (repeat' split)
  · exact h.sync _
  · exact h.clear _
  · exact h
  · exact h.ask hn hk
  · exact h.breaks hn
  · exact h.crash _ _
  · exact h.on
  · exact h.app _ _
theorem numAt_i64 {l : List Int} (h : ∀ z ∈ l, I64 z) (i : Nat) : I64 (numAt l i) := by
  unfold numAt
  rw [List.getD_eq_getElem?_getD]
  cases e : l[i]? with
  | none => simp [I64]
  | some z => exact h z (List.mem_of_getElem? e)
theorem DK.Dv.Ok.act {D : Dv} (h : D.Ok) (x : Tx) (hn : I64 x.n) (hk : ∀ z ∈ x.k4, I64 z) : (D.act x).Ok := by
  unfold Dv.act
  (repeat' split)
  · exact h.syncOk _
  · exact h.clearOk _
  · exact h
  · exact h.asks hn (numAt_i64 hk 0) (numAt_i64 hk 1)
  · exact h.breaks hn
  · exact h.crash _ _
  · exact h.on
  · exact h.appOk _ _
theorem Tx.k4_le (x : Tx) : x.k4.length ≤ 4 := by unfold Tx.k4; rw [List.length_take]; omega
theorem DK.Sim.act {D : Dv} {R : Rv} (h : Sim D R) (x : Tx) (hn : I64 x.n) (hk : ∀ z ∈ x.k4, I64 z) : Sim (D.act x) (R.act x) := by
  unfold Dv.act Rv.act
  (repeat' split)
  · exact (h.sync _).2
  · exact (h.clear _).2
  · exact h
  · exact h.asks hn hk x.k4_le
  · exact h.breaks hn
  · exact h.crash _ _
  · exact h.on
  · exact (h.app _ _).2
end Go.Proofs.Ytdgljfoghonbaaa
