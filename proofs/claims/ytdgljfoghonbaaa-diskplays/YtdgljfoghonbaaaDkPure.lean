/- Layer 11 as plain data: the program's disk, the document's, and that they answer alike. -/
namespace Go.Proofs.Ytdgljfoghonbaaa
namespace DK
/-- A file: its bytes, and how many of them last. -/
structure Fl where
  s : List UInt8
  l : Nat
/-- The program's disk. -/
structure Dv where
  a : Fl
  b : Fl
  lim : Nat
  off : Bool
  cut : Int
  k0 : Int
  k1 : Int
  full : Int
def I64 (z : Int) : Prop := -9223372036854775808 ≤ z ∧ z ≤ 9223372036854775807
def Dv.Ok (D : Dv) : Prop := D.a.l ≤ D.a.s.length ∧ D.b.l ≤ D.b.s.length ∧ D.a.s.length + D.b.s.length ≤ D.lim ∧ D.lim ≤ 16777216 ∧ I64 D.cut ∧ I64 D.k0 ∧ I64 D.k1 ∧ I64 D.full
/-- How many of n loose bytes a number keeps. -/
def kp (k : Int) (n : Nat) : Int := if 0 ≤ k then k % ((n : Int) + 1) else (n : Int) - (-(k + 1)) % ((n : Int) + 1)
theorem kp_le (k : Int) (n : Nat) : 0 ≤ kp k n ∧ kp k n ≤ n := by
  unfold kp
  have h1 := Int.emod_nonneg k (b := (n : Int) + 1) (by omega)
  have h2 := Int.emod_lt_of_pos k (b := (n : Int) + 1) (by omega)
  have h3 := Int.emod_nonneg (-(k + 1)) (b := (n : Int) + 1) (by omega)
  have h4 := Int.emod_lt_of_pos (-(k + 1)) (b := (n : Int) + 1) (by omega)
  split <;> omega
theorem kp_zero (n : Nat) : kp 0 n = 0 := by unfold kp; simp
def Fl.at (x : Fl) (k : Int) : Nat := x.l + (kp k (x.s.length - x.l)).toNat
def Fl.lose (x : Fl) (k : Int) : Fl := ⟨x.s.take (x.at k), x.at k⟩
theorem Fl.at_le {x : Fl} (h : x.l ≤ x.s.length) (k : Int) : x.l ≤ x.at k ∧ x.at k ≤ x.s.length := by
  unfold Fl.at
  have := kp_le k (x.s.length - x.l)
  omega
theorem Fl.at_int {x : Fl} (k : Int) : ((x.at k : Nat) : Int) = (x.l : Int) + kp k (x.s.length - x.l) := by
  unfold Fl.at
  have := kp_le k (x.s.length - x.l)
  omega
theorem Fl.lose_len {x : Fl} (h : x.l ≤ x.s.length) (k : Int) : (x.lose k).s.length = x.at k ∧ (x.lose k).l = x.at k := by
  have := Fl.at_le h k
  simp [Fl.lose]; omega
def fileB (f : Int) : Bool := decide (f = 0) || decide (f = 1)
theorem fileB_cases {f : Int} (h : fileB f = true) : f = 0 ∨ f = 1 := by unfold fileB at h; simpa using h
theorem fileB_no {f : Int} (h : fileB f = false) : f ≠ 0 ∧ f ≠ 1 := by unfold fileB at h; simpa using h
/-- Why a call with a file can't be done. -/
def Dv.ref (D : Dv) (f : Int) : Int := if D.off = true then 240 else if fileB f = true then 0 else 242
def Dv.lose (D : Dv) (j k : Int) : Dv := { D with a := D.a.lose j, b := D.b.lose k }
def Dv.on (D : Dv) : Dv := { D with off := false, cut := 0, full := 0 }
def Dv.crash (D : Dv) (j k : Int) : Dv := (if D.off = true then D else D.lose j k).on
def due (n : Int) : Int := if 1 < n then n - 1 else n
def Dv.due1 (D : Dv) : Dv := { D with cut := due D.cut }
def Dv.due2 (D : Dv) : Dv := { D with full := due D.full }
def Dv.due (D : Dv) : Dv := { D with cut := DK.due D.cut, full := DK.due D.full }
/-- A change: its code, and the disk behind it. -/
def Dv.chgC (D : Dv) : Int := if D.cut = 1 then 240 else if D.full = 1 then 241 else 0
def Dv.chg (D : Dv) (does loss : Dv → Dv) : Dv :=
  if D.cut = 1 then { (loss D.due).lose D.k0 D.k1 with off := true } else if D.full = 1 then D.due else does D.due
/-- What each change does, at the first file and at the other. -/
def Dv.fl (D : Dv) (i : Nat) : Fl := if i = 0 then D.a else D.b
def Dv.upd (i : Nat) (g : Fl → Fl) (D : Dv) : Dv := if i = 0 then { D with a := g D.a } else { D with b := g D.b }
def Fl.app (s : List UInt8) (x : Fl) : Fl := ⟨x.s ++ s, x.l⟩
def Fl.sync (x : Fl) : Fl := ⟨x.s, x.s.length⟩
def Fl.clear (_ : Fl) : Fl := ⟨[], 0⟩
def ix (f : Int) : Nat := f.toNat
def Dv.room (D : Dv) : Int := (D.lim : Int) - (D.a.s.length : Int) - (D.b.s.length : Int)
def Dv.appC (D : Dv) (f : Int) (s : List UInt8) : Int :=
  if D.ref f ≠ 0 then D.ref f else if D.room < (s.length : Int) then 241 else if s = [] then 0 else D.chgC
def Dv.app (D : Dv) (f : Int) (s : List UInt8) : Dv :=
  if D.ref f ≠ 0 then D else if D.room < (s.length : Int) then D else if s = [] then D else D.chg (Dv.upd (ix f) (Fl.app s)) (Dv.upd (ix f) (Fl.app s))
def Dv.syncC (D : Dv) (f : Int) : Int := if D.ref f ≠ 0 then D.ref f else D.chgC
def Dv.sync (D : Dv) (f : Int) : Dv := if D.ref f ≠ 0 then D else D.chg (Dv.upd (ix f) Fl.sync) id
def Dv.clear (D : Dv) (f : Int) : Dv := if D.ref f ≠ 0 then D else D.chg (Dv.upd (ix f) Fl.clear) id
def Dv.rd (D : Dv) (f : Int) : List UInt8 := if D.ref f ≠ 0 then [] else (D.fl (ix f)).s
def Dv.last (D : Dv) (f : Int) : Nat := if fileB f = true then (D.fl (ix f)).l else 0
def Dv.asks (D : Dv) (n j k : Int) : Dv := { D with cut := n, k0 := j, k1 := k }
def Dv.breaks (D : Dv) (n : Int) : Dv := { D with full := n }
def newD (lim : Int) : Dv := { a := ⟨[], 0⟩, b := ⟨[], 0⟩, lim := (min (max lim 0) 16777216).toNat, off := false, cut := 0, k0 := 0, k1 := 0, full := 0 }

theorem i64_due {n : Int} (h : I64 n) : I64 (due n) := by unfold I64 at *; unfold due; split <;> omega
theorem Dv.Ok.due1 {D : Dv} (h : D.Ok) : D.due1.Ok := by
  obtain ⟨h1, h2, h3, h4, h5, h6, h7, h8⟩ := h
  exact ⟨h1, h2, h3, h4, i64_due h5, h6, h7, h8⟩
theorem Dv.Ok.due2 {D : Dv} (h : D.Ok) : D.due2.Ok := by
  obtain ⟨h1, h2, h3, h4, h5, h6, h7, h8⟩ := h
  exact ⟨h1, h2, h3, h4, h5, h6, h7, i64_due h8⟩
theorem Dv.Ok.due {D : Dv} (h : D.Ok) : D.due.Ok := h.due1.due2
theorem Dv.Ok.on {D : Dv} (h : D.Ok) : D.on.Ok := by
  obtain ⟨h1, h2, h3, h4, h5, h6, h7, h8⟩ := h
  exact ⟨h1, h2, h3, h4, by simp [Dv.on, I64], h6, h7, by simp [Dv.on, I64]⟩
theorem Dv.Ok.lose {D : Dv} (h : D.Ok) (j k : Int) : (D.lose j k).Ok := by
  obtain ⟨h1, h2, h3, h4, h5, h6, h7, h8⟩ := h
  have a := Fl.lose_len h1 j
  have b := Fl.lose_len h2 k
  have a2 := Fl.at_le h1 j
  have b2 := Fl.at_le h2 k
  refine ⟨?_, ?_, ?_, h4, h5, h6, h7, h8⟩
  · show (D.a.lose j).l ≤ (D.a.lose j).s.length; omega
  · show (D.b.lose k).l ≤ (D.b.lose k).s.length; omega
  · show (D.a.lose j).s.length + (D.b.lose k).s.length ≤ D.lim; omega
theorem Dv.Ok.setOff {D : Dv} (h : D.Ok) (b : Bool) : ({ D with off := b } : Dv).Ok := h
theorem Dv.Ok.crash {D : Dv} (h : D.Ok) (j k : Int) : (D.crash j k).Ok := by
  unfold Dv.crash
  split
  · exact h.on
  · exact (h.lose j k).on
theorem Dv.Ok.app {D : Dv} (h : D.Ok) (i : Nat) (s : List UInt8) (hr : (s.length : Int) ≤ D.room) : (Dv.upd i (Fl.app s) D).Ok := by
  obtain ⟨h1, h2, h3, h4, h5, h6, h7, h8⟩ := h
  unfold Dv.room at hr
  unfold Dv.upd
  split
  · refine ⟨?_, h2, ?_, h4, h5, h6, h7, h8⟩
    · show D.a.l ≤ (D.a.s ++ s).length; simp; omega
    · show (D.a.s ++ s).length + D.b.s.length ≤ D.lim; simp; omega
  · refine ⟨h1, ?_, ?_, h4, h5, h6, h7, h8⟩
    · show D.b.l ≤ (D.b.s ++ s).length; simp; omega
    · show D.a.s.length + (D.b.s ++ s).length ≤ D.lim; simp; omega
theorem Dv.Ok.sync {D : Dv} (h : D.Ok) (i : Nat) : (Dv.upd i Fl.sync D).Ok := by
  obtain ⟨h1, h2, h3, h4, h5, h6, h7, h8⟩ := h
  unfold Dv.upd
  split
  · exact ⟨Nat.le_refl _, h2, h3, h4, h5, h6, h7, h8⟩
  · exact ⟨h1, Nat.le_refl _, h3, h4, h5, h6, h7, h8⟩
theorem Dv.Ok.clear {D : Dv} (h : D.Ok) (i : Nat) : (Dv.upd i Fl.clear D).Ok := by
  obtain ⟨h1, h2, h3, h4, h5, h6, h7, h8⟩ := h
  unfold Dv.upd
  split
  · exact ⟨Nat.le_refl _, h2, by show ([] : List UInt8).length + _ ≤ _; simp; omega, h4, h5, h6, h7, h8⟩
  · exact ⟨h1, Nat.le_refl _, by show _ + ([] : List UInt8).length ≤ _; simp; omega, h4, h5, h6, h7, h8⟩
theorem Dv.Ok.chg {D : Dv} (h : D.Ok) {does loss : Dv → Dv} (h1 : (does D.due).Ok) (h2 : (loss D.due).Ok) : (D.chg does loss).Ok := by
  unfold Dv.chg
  split
  · exact (h2.lose _ _).setOff true
  · split
    · exact h.due
    · exact h1
theorem Dv.Ok.appOk {D : Dv} (h : D.Ok) (f : Int) (s : List UInt8) : (D.app f s).Ok := by
  unfold Dv.app
  split
  · exact h
  · split
    · exact h
    · split
      · exact h
      · have := h.due.app (ix f) s (by show _ ≤ D.room; omega)
        exact h.chg this this
theorem Dv.Ok.syncOk {D : Dv} (h : D.Ok) (f : Int) : (D.sync f).Ok := by
  unfold Dv.sync
  split
  · exact h
  · exact h.chg (h.due.sync _) h.due
theorem Dv.Ok.clearOk {D : Dv} (h : D.Ok) (f : Int) : (D.clear f).Ok := by
  unfold Dv.clear
  split
  · exact h
  · exact h.chg (h.due.clear _) h.due
theorem Dv.Ok.asks {D : Dv} (h : D.Ok) {n j k : Int} (hn : I64 n) (hj : I64 j) (hk : I64 k) : (D.asks n j k).Ok := by
  obtain ⟨h1, h2, h3, h4, h5, h6, h7, h8⟩ := h
  exact ⟨h1, h2, h3, h4, hn, hj, hk, h8⟩
theorem Dv.Ok.breaks {D : Dv} (h : D.Ok) {n : Int} (hn : I64 n) : (D.breaks n).Ok := by
  obtain ⟨h1, h2, h3, h4, h5, h6, h7, h8⟩ := h
  exact ⟨h1, h2, h3, h4, h5, h6, h7, hn⟩
theorem newD_ok (lim : Int) : (newD lim).Ok := by
  refine ⟨Nat.le_refl _, Nat.le_refl _, Nat.zero_le _, ?_, ?_, ?_, ?_, ?_⟩
  · show (min (max lim 0) 16777216).toNat ≤ 16777216; omega
  all_goals simp [newD, I64]
end DK
end Go.Proofs.Ytdgljfoghonbaaa
