/- The document's disk as plain data; both answer alike. -/
import Derived.Test.YtdgljfoghonbaaaDkPure
namespace Go.Proofs.Ytdgljfoghonbaaa
namespace DK
/-- The document's disk. -/
structure Rv where
  a : Fl
  b : Fl
  lim : Nat
  off : Bool
  cut : Int
  keep : List Int
  brk : Int
  isf : Bool
def Rv.find (R : Rv) (f : Int) : Int := if R.off = true then 240 else if fileB f = true then 0 else 242
def Rv.on (R : Rv) : Rv := { R with off := false, cut := 0, keep := [], brk := 0, isf := false }
def Rv.lose (R : Rv) (j k : Int) : Rv := { R with a := R.a.lose j, b := R.b.lose k, off := true, cut := 0, keep := [], brk := 0, isf := false }
def Rv.crash (R : Rv) (j k : Int) : Rv := (if R.off = true then R else R.lose j k).on
def Rv.ask (R : Rv) (n : Int) (l : List Int) : Rv := { R with cut := if 0 < n then n else 0, keep := l }
def Rv.breaks (R : Rv) (n : Int) : Rv := { R with brk := if 0 < n then n else 0, isf := false }
def Rv.cutd (R : Rv) : Rv := if 0 < R.cut then { R with cut := R.cut - 1 } else R
def Rv.brkd (R : Rv) : Rv := if 0 < R.brk then { R with brk := R.brk - 1, isf := if R.brk = 1 then true else R.isf } else R
def Rv.stopC (R : Rv) : Int := if R.cut = 1 then 240 else if R.brkd.isf = true then 241 else 0
def Rv.stopS (R : Rv) : Rv := if R.cut = 1 then R.cutd else R.cutd.brkd
def Rv.fl (R : Rv) (i : Nat) : Fl := if i = 0 then R.a else R.b
def Rv.upd (i : Nat) (g : Fl → Fl) (R : Rv) : Rv := if i = 0 then { R with a := g R.a } else { R with b := g R.b }
def numAt (l : List Int) (i : Nat) : Int := l.getD i 0
/-- A change of the document's disk: what is done of it in any case but of a full disk (pre), what is done behind it (post). -/
def Rv.chg (R : Rv) (pre post : Rv → Rv) : Rv :=
  if R.stopC = 240 then (pre R.stopS).lose (numAt R.keep 0) (numAt R.keep 1) else if R.stopC = 241 then R.stopS else post R.stopS
def Rv.appC (R : Rv) (f : Int) (s : List UInt8) : Int :=
  if R.find f ≠ 0 then R.find f else if (R.lim : Int) < (R.a.s.length : Int) + (R.b.s.length : Int) + (s.length : Int) then 241 else if s.length = 0 then 0 else R.stopC
def Rv.app (R : Rv) (f : Int) (s : List UInt8) : Rv :=
  if R.find f ≠ 0 then R else if (R.lim : Int) < (R.a.s.length : Int) + (R.b.s.length : Int) + (s.length : Int) then R else if s.length = 0 then R else R.chg (Rv.upd (ix f) (Fl.app s)) (Rv.upd (ix f) (Fl.app s))
def Rv.syncC (R : Rv) (f : Int) : Int := if R.find f ≠ 0 then R.find f else R.stopC
def Rv.sync (R : Rv) (f : Int) : Rv := if R.find f ≠ 0 then R else R.chg id (Rv.upd (ix f) Fl.sync)
def Rv.clear (R : Rv) (f : Int) : Rv := if R.find f ≠ 0 then R else R.chg id (Rv.upd (ix f) Fl.clear)
def Rv.rd (R : Rv) (f : Int) : List UInt8 := if R.find f ≠ 0 then [] else (R.fl (ix f)).s
def newR (lim : Int) : Rv := { a := ⟨[], 0⟩, b := ⟨[], 0⟩, lim := (min (max lim 0) 16777216).toNat, off := false, cut := 0, keep := [], brk := 0, isf := false }

/-- Both disks have the same. -/
structure Sim (D : Dv) (R : Rv) : Prop where
  ok : D.Ok
  a : R.a = D.a
  b : R.b = D.b
  lim : R.lim = D.lim
  off : R.off = D.off
  cut : D.off = false → (D.cut < 1 ∧ R.cut = 0) ∨ (1 ≤ D.cut ∧ R.cut = D.cut ∧ numAt R.keep 0 = D.k0 ∧ numAt R.keep 1 = D.k1)
  full : D.off = false → (D.full < 1 ∧ R.brk = 0 ∧ R.isf = false) ∨ (1 ≤ D.full ∧ R.brk = D.full ∧ R.isf = false) ∨ (D.full = 1 ∧ R.brk = 0 ∧ R.isf = true)
  cutI : I64 R.cut
  brkI : I64 R.brk
  keepI : ∀ z ∈ R.keep, I64 z
  keepL : R.keep.length ≤ 4
theorem Sim.find {D : Dv} {R : Rv} (h : Sim D R) (f : Int) : R.find f = D.ref f := by unfold Rv.find Dv.ref; rw [h.off]
theorem Sim.new (lim : Int) : Sim (newD lim) (newR lim) where
  ok := newD_ok lim
  a := rfl
  b := rfl
  lim := rfl
  off := rfl
  cut := fun _ => .inl ⟨(by show (0 : Int) < 1; omega), rfl⟩
  full := fun _ => .inl ⟨(by show (0 : Int) < 1; omega), rfl, rfl⟩
  cutI := by simp [newR, I64]
  brkI := by simp [newR, I64]
  keepI := by simp [newR]
  keepL := by simp [newR]
theorem Sim.on {D : Dv} {R : Rv} (h : Sim D R) : Sim D.on R.on where
  ok := h.ok.on
  a := h.a
  b := h.b
  lim := h.lim
  off := rfl
  cut := fun _ => .inl ⟨(by show (0 : Int) < 1; omega), rfl⟩
  full := fun _ => .inl ⟨(by show (0 : Int) < 1; omega), rfl, rfl⟩
  cutI := by simp [Rv.on, I64]
  brkI := by simp [Rv.on, I64]
  keepI := by simp [Rv.on]
  keepL := by simp [Rv.on]
/-- Behind a loss of power. -/
theorem Sim.lost {D : Dv} {R : Rv} (ok : D.Ok) (a : R.a = D.a) (b : R.b = D.b) (lim : R.lim = D.lim) (j k : Int) : Sim { D.lose j k with off := true } (R.lose j k) where
  ok := (ok.lose j k).setOff true
  a := by show R.a.lose j = D.a.lose j; rw [a]
  b := by show R.b.lose k = D.b.lose k; rw [b]
  lim := lim
  off := rfl
  cut := fun h => by cases h
  full := fun h => by cases h
  cutI := by simp [Rv.lose, I64]
  brkI := by simp [Rv.lose, I64]
  keepI := by simp [Rv.lose]
  keepL := by simp [Rv.lose]
theorem Sim.crash {D : Dv} {R : Rv} (h : Sim D R) (j k : Int) : Sim (D.crash j k) (R.crash j k) := by
  unfold Dv.crash Rv.crash
  rw [h.off]
  split
  · exact h.on
  · have := (Sim.lost h.ok h.a h.b h.lim j k).on
    exact this
theorem Sim.asks {D : Dv} {R : Rv} (h : Sim D R) {n : Int} {l : List Int} (hn : I64 n) (hl : ∀ z ∈ l, I64 z) (hl4 : l.length ≤ 4) : Sim (D.asks n (numAt l 0) (numAt l 1)) (R.ask n l) where
  ok := h.ok.asks hn (by
    unfold numAt
    rw [List.getD_eq_getElem?_getD]
    cases e : l[0]? with
    | none => simp [I64]
    | some z => exact hl z (List.mem_of_getElem? e)) (by
    unfold numAt
    rw [List.getD_eq_getElem?_getD]
    cases e : l[1]? with
    | none => simp [I64]
    | some z => exact hl z (List.mem_of_getElem? e))
  a := h.a
  b := h.b
  lim := h.lim
  off := h.off
  cut := fun _ => by
    show (n < 1 ∧ (if 0 < n then n else 0) = 0) ∨ (1 ≤ n ∧ (if 0 < n then n else 0) = n ∧ _)
    by_cases hp : 0 < n
    · rw [if_pos hp]; exact .inr ⟨by omega, rfl, rfl, rfl⟩
    · rw [if_neg hp]; exact .inl ⟨by omega, rfl⟩
  full := fun ho => h.full ho
  cutI := by
    show I64 (if 0 < n then n else 0)
    split
    · exact hn
    · simp [I64]
  brkI := h.brkI
  keepI := hl
  keepL := hl4
theorem Sim.breaks {D : Dv} {R : Rv} (h : Sim D R) {n : Int} (hn : I64 n) : Sim (D.breaks n) (R.breaks n) where
  ok := h.ok.breaks hn
  a := h.a
  b := h.b
  lim := h.lim
  off := h.off
  cut := fun ho => h.cut ho
  full := fun _ => by
    show (n < 1 ∧ (if 0 < n then n else 0) = 0 ∧ false = false) ∨ (1 ≤ n ∧ (if 0 < n then n else 0) = n ∧ false = false) ∨ _
    by_cases hp : 0 < n
    · rw [if_pos hp]; exact .inr (.inl ⟨by omega, rfl, rfl⟩)
    · rw [if_neg hp]; exact .inl ⟨by omega, rfl, rfl⟩
  cutI := h.cutI
  brkI := by
    show I64 (if 0 < n then n else 0)
    split
    · exact hn
    · simp [I64]
  keepI := h.keepI
  keepL := h.keepL

/-- What stops a change, on both disks. -/
theorem Sim.stop {D : Dv} {R : Rv} (h : Sim D R) (ho : D.off = false) : R.stopC = D.chgC ∧ (R.stopC ≠ 240 → Sim D.due R.stopS) ∧ (R.stopC = 240 → numAt R.keep 0 = D.k0 ∧ numAt R.keep 1 = D.k1) := by
  have hbd : R.brkd.isf = decide (D.full = 1) := by
    unfold Rv.brkd
    rcases h.full ho with ⟨f1, f2, f3⟩ | ⟨f1, f2, f3⟩ | ⟨f1, f2, f3⟩
    · rw [if_neg (by omega), f3, eq_comm, decide_eq_false_iff_not]; omega
    · rw [if_pos (by omega)]
      show (if R.brk = 1 then true else R.isf) = _
      by_cases e : D.full = 1
      · rw [if_pos (by omega), decide_eq_true e]
      · rw [if_neg (by omega), f3, decide_eq_false e]
    · rw [if_neg (by omega), f3, decide_eq_true f1]
  have hc1 : R.cut = 1 ↔ D.cut = 1 := by
    rcases h.cut ho with ⟨c1, c2⟩ | ⟨c1, c2, -⟩ <;> omega
  have hS : R.stopC = D.chgC := by
    unfold Rv.stopC Dv.chgC
    rw [hbd]
    by_cases e : D.cut = 1
    · rw [if_pos (hc1.2 e), if_pos e]
    · rw [if_neg (fun x => e (hc1.1 x)), if_neg e]
      by_cases f : D.full = 1 <;> simp [f]
  refine ⟨hS, fun hne => ?_, fun he => ?_⟩
  · have hcn : ¬ R.cut = 1 := fun e => hne (by unfold Rv.stopC; rw [if_pos e])
    have e1 : R.stopS = R.cutd.brkd := by unfold Rv.stopS; rw [if_neg hcn]
    have hcd : R.cutd.brkd.a = R.a ∧ R.cutd.brkd.b = R.b ∧ R.cutd.brkd.lim = R.lim ∧ R.cutd.brkd.off = R.off ∧ R.cutd.brkd.keep = R.keep ∧ R.cutd.brkd.cut = (if 0 < R.cut then R.cut - 1 else R.cut) ∧ R.cutd.brkd.brk = (if 0 < R.brk then R.brk - 1 else R.brk) ∧ R.cutd.brkd.isf = (if 0 < R.brk then (if R.brk = 1 then true else R.isf) else R.isf) := by
      unfold Rv.cutd Rv.brkd
      by_cases x : 0 < R.cut <;> by_cases y : 0 < R.brk <;> simp [x, y]
    obtain ⟨q1, q2, q3, q4, q5, q6, q7, q8⟩ := hcd
    have i1 := h.cutI
    have i2 := h.brkI
    rw [e1]
    refine { ok := h.ok.due, a := q1.trans h.a, b := q2.trans h.b, lim := q3.trans h.lim, off := q4.trans h.off, cut := fun _ => ?_, full := fun _ => ?_, cutI := ?_, brkI := ?_, keepI := by rw [q5]; exact h.keepI, keepL := by rw [q5]; exact h.keepL }
    · rw [q6, q5]
      show (DK.due D.cut < 1 ∧ _) ∨ (1 ≤ DK.due D.cut ∧ _ = DK.due D.cut ∧ _)
      unfold DK.due
      rcases h.cut ho with ⟨c1, c2⟩ | ⟨c1, c2, c3, c4⟩
      · exact .inl ⟨by split <;> omega, by split <;> omega⟩
      · exact .inr ⟨by split <;> omega, by split <;> split <;> omega, c3, c4⟩
    · rw [q7, q8]
      show (DK.due D.full < 1 ∧ _) ∨ (1 ≤ DK.due D.full ∧ _ = DK.due D.full ∧ _) ∨ (DK.due D.full = 1 ∧ _)
      unfold DK.due
      rcases h.full ho with ⟨f1, f2, f3⟩ | ⟨f1, f2, f3⟩ | ⟨f1, f2, f3⟩
      · exact .inl ⟨by split <;> omega, by split <;> omega, by rw [if_neg (by omega)]; exact f3⟩
      · by_cases e : D.full = 1
        · exact .inr (.inr ⟨by split <;> omega, by split <;> omega, by rw [if_pos (by omega), if_pos (by omega)]⟩)
        · exact .inr (.inl ⟨by split <;> omega, by split <;> split <;> omega, by rw [if_pos (by omega), if_neg (by omega)]; exact f3⟩)
      · exact .inr (.inr ⟨by split <;> omega, by split <;> omega, by rw [if_neg (by omega)]; exact f3⟩)
    · rw [q6]; unfold I64 at *; split <;> omega
    · rw [q7]; unfold I64 at *; split <;> omega
  · have hcn : R.cut = 1 := by
      unfold Rv.stopC at he
      split at he
      · assumption
      · split at he <;> cases he
    rcases h.cut ho with ⟨c1, c2⟩ | ⟨c1, c2, c3, c4⟩
    · omega
    · exact ⟨c3, c4⟩
theorem Sim.chg {D : Dv} {R : Rv} (h : Sim D R) (ho : D.off = false) {does loss : Dv → Dv} {pre post : Rv → Rv} 
    (hp : ∀ R', Sim D.due R' → Sim (does D.due) (post R')) (hl : ∀ R' : Rv, R'.a = D.a → R'.b = D.b → R'.lim = D.lim → (loss D.due).Ok ∧ (pre R').a = (loss D.due).a ∧ (pre R').b = (loss D.due).b ∧ (pre R').lim = (loss D.due).lim) : R.stopC = D.chgC ∧ Sim (D.chg does loss) (R.chg pre post) := by
  obtain ⟨h1, h2, h3⟩ := h.stop ho
  refine ⟨h1, ?_⟩
  unfold Dv.chg Rv.chg
  by_cases e : R.stopC = 240
  · rw [if_pos e]
    have hc : D.cut = 1 := by
      rw [h1] at e
      unfold Dv.chgC at e
      split at e
      · assumption
      · split at e <;> cases e
    rw [if_pos hc]
    obtain ⟨k0, k1⟩ := h3 e
    rw [k0, k1]
    have hs : R.stopS.a = D.a ∧ R.stopS.b = D.b ∧ R.stopS.lim = D.lim := by
      unfold Rv.stopS Rv.cutd Rv.brkd
      refine ⟨?_, ?_, ?_⟩
      · rw [← h.a]; (repeat' split) <;> rfl
      · rw [← h.b]; (repeat' split) <;> rfl
      · rw [← h.lim]; (repeat' split) <;> rfl
    obtain ⟨l1, l2, l3, l4⟩ := hl R.stopS hs.1 hs.2.1 hs.2.2
    exact Sim.lost l1 l2 l3 l4 _ _
  · rw [if_neg e]
    have hc : ¬ D.cut = 1 := fun hc => e (by rw [h1]; unfold Dv.chgC; rw [if_pos hc])
    rw [if_neg hc]
    by_cases f : R.stopC = 241
    · rw [if_pos f]
      have hf : D.full = 1 := by
        rw [h1] at f
        unfold Dv.chgC at f
        rw [if_neg hc] at f
        split at f
        · assumption
        · cases f
      rw [if_pos hf]
      exact h2 e
    · rw [if_neg f]
      have hf : ¬ D.full = 1 := fun hf => f (by rw [h1]; unfold Dv.chgC; rw [if_neg hc, if_pos hf])
      rw [if_neg hf]
      exact hp _ (h2 e)
/-- The same is done at one file of both. -/
theorem Sim.upd {D : Dv} {R : Rv} (h : Sim D R) (i : Nat) (g : Fl → Fl) (ok : (Dv.upd i g D).Ok) : Sim (Dv.upd i g D) (Rv.upd i g R) := by
  by_cases hi : i = 0
  · subst hi
    exact { ok := ok, a := by show g R.a = g D.a; rw [h.a], b := h.b, lim := h.lim, off := h.off, cut := fun ho => h.cut ho, full := fun ho => h.full ho, cutI := h.cutI, brkI := h.brkI, keepI := h.keepI, keepL := h.keepL }
  · have e1 : Dv.upd i g D = { D with b := g D.b } := by unfold Dv.upd; rw [if_neg hi]
    have e2 : Rv.upd i g R = { R with b := g R.b } := by unfold Rv.upd; rw [if_neg hi]
    rw [e1] at ok ⊢
    rw [e2]
    exact { ok := ok, a := h.a, b := by show g R.b = g D.b; rw [h.b], lim := h.lim, off := h.off, cut := fun ho => h.cut ho, full := fun ho => h.full ho, cutI := h.cutI, brkI := h.brkI, keepI := h.keepI, keepL := h.keepL }
theorem upd_parts {D : Dv} {R : Rv} (i : Nat) (g : Fl → Fl) (ha : R.a = D.a) (hb : R.b = D.b) (hl : R.lim = D.lim) : (Rv.upd i g R).a = (Dv.upd i g D).a ∧ (Rv.upd i g R).b = (Dv.upd i g D).b ∧ (Rv.upd i g R).lim = (Dv.upd i g D).lim := by
  unfold Rv.upd Dv.upd
  split
  · exact ⟨by show g R.a = g D.a; rw [ha], hb, hl⟩
  · exact ⟨ha, by show g R.b = g D.b; rw [hb], hl⟩
theorem ref_off {D : Dv} {f : Int} (h : D.ref f = 0) : D.off = false := by
  unfold Dv.ref at h
  split at h
  · cases h
  · rename_i h0; simpa using h0
theorem Sim.app {D : Dv} {R : Rv} (h : Sim D R) (f : Int) (s : List UInt8) : R.appC f s = D.appC f s ∧ Sim (D.app f s) (R.app f s) := by
  unfold Rv.appC Dv.appC Rv.app Dv.app
  rw [h.find f]
  by_cases hr : D.ref f = 0
  · have n0 : ¬ (D.ref f ≠ 0) := fun x => x hr
    rw [if_neg n0, if_neg n0, if_neg n0, if_neg n0]
    have hroom : ((R.lim : Int) < (R.a.s.length : Int) + (R.b.s.length : Int) + (s.length : Int)) ↔ D.room < (s.length : Int) := by
      unfold Dv.room
      rw [h.a, h.b, h.lim]
      omega
    by_cases hm : D.room < (s.length : Int)
    · have hm' := hroom.2 hm
      rw [if_pos hm', if_pos hm, if_pos hm, if_pos hm']; exact ⟨rfl, h⟩
    · have hm' : ¬ ((R.lim : Int) < (R.a.s.length : Int) + (R.b.s.length : Int) + (s.length : Int)) := fun x => hm (hroom.1 x)
      rw [if_neg hm', if_neg hm, if_neg hm, if_neg hm']
      by_cases hs : s = []
      · subst hs; exact ⟨rfl, h⟩
      · have hs' : ¬ s.length = 0 := fun x => hs (List.eq_nil_of_length_eq_zero x)
        rw [if_neg hs', if_neg hs, if_neg hs, if_neg hs']
        have hok : (Dv.upd (ix f) (Fl.app s) D.due).Ok := h.ok.due.app _ _ (by show _ ≤ D.room; omega)
        exact h.chg (ref_off hr) (fun R' hR => hR.upd _ _ hok) (fun R' ha hb hl => ⟨hok, upd_parts (D := D.due) _ _ ha hb hl⟩)
  · rw [if_pos hr, if_pos hr, if_pos hr, if_pos hr]; exact ⟨rfl, h⟩
theorem Sim.sync {D : Dv} {R : Rv} (h : Sim D R) (f : Int) : R.syncC f = D.syncC f ∧ Sim (D.sync f) (R.sync f) := by
  unfold Rv.syncC Dv.syncC Rv.sync Dv.sync
  rw [h.find f]
  by_cases hr : D.ref f = 0
  · have n0 : ¬ (D.ref f ≠ 0) := fun x => x hr
    rw [if_neg n0, if_neg n0, if_neg n0, if_neg n0]
    exact h.chg (ref_off hr) (fun R' hR => hR.upd _ _ (h.ok.due.sync _)) (fun R' ha hb hl => ⟨h.ok.due, ha, hb, hl⟩)
  · rw [if_pos hr, if_pos hr, if_pos hr, if_pos hr]; exact ⟨rfl, h⟩
theorem Sim.clear {D : Dv} {R : Rv} (h : Sim D R) (f : Int) : R.syncC f = D.syncC f ∧ Sim (D.clear f) (R.clear f) := by
  unfold Rv.syncC Dv.syncC Rv.clear Dv.clear
  rw [h.find f]
  by_cases hr : D.ref f = 0
  · have n0 : ¬ (D.ref f ≠ 0) := fun x => x hr
    rw [if_neg n0, if_neg n0, if_neg n0, if_neg n0]
    exact h.chg (ref_off hr) (fun R' hR => hR.upd _ _ (h.ok.due.clear _)) (fun R' ha hb hl => ⟨h.ok.due, ha, hb, hl⟩)
  · rw [if_pos hr, if_pos hr, if_pos hr, if_pos hr]; exact ⟨rfl, h⟩
theorem Sim.rd {D : Dv} {R : Rv} (h : Sim D R) (f : Int) : R.rd f = D.rd f := by
  unfold Rv.rd Dv.rd Rv.fl Dv.fl
  rw [h.find f, h.a, h.b]
end DK
end Go.Proofs.Ytdgljfoghonbaaa
