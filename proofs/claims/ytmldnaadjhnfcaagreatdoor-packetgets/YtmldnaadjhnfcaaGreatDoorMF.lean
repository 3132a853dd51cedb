/- The document's writer of packets, plainly: its code is the program's, and where there is none its bytes are.; The document's writer of packets: its small functions.; What was read is such as a machine can hold.; A packet that was read is such as Put takes.; The document's writer of packets: connect, end. -/
import Derived.Test.YtmldnaadjhnfcaaGreatDoorPkPut
import Derived.Test.YtmldnaadjhnfcaaGreatDoorMC
import Derived.Test.YtmldnaadjhnfcaaGreatDoorPkAllow
import Derived.Test.YtmldnaadjhnfcaaGreatDoorPkPropW
import Derived.Deep.MidRow
import Derived.Laws.Tables
import Derived.Test.YtmldnaadjhnfcaaGreatDoorPrMisc
import Derived.Test.YtmldnaadjhnfcaaGreatDoorMA
import Derived.Test.YtmldnaadjhnfcaaGreatDoorMD
namespace Go.Proofs.YtmldnaadjhnfcaaGreatDoor
namespace RP
open PK (fl isQ alAll)
def ad (o : ByteArray × Int) (s : ByteArray) (c : Int) : ByteArray × Int := (o.1 ++ s, if o.2 = 0 then c else o.2)
def nm (o : ByteArray × Int) (w n : Int) : ByteArray × Int := ad o (strOfNums (VP.fixL w n)) (VP.fixC w n)
def tx (o : ByteArray × Int) (s : ByteArray) : ByteArray × Int := ad o (TX.putS s) (TX.putC s)
def dt (o : ByteArray × Int) (s : ByteArray) : ByteArray × Int := ad o (TX.dataS s) (TX.dataC s)
def idd (o : ByteArray × Int) (n : Int) : ByteArray × Int := if n < 1 ∨ 65535 < n then ad o ⟨#[]⟩ 130 else nm o 2 n
def pr (o : ByteArray × Int) (k : Int) (l : List Pr) : ByteArray × Int := if alAll k l = true then ad o (PR.putS l) (PR.putC l) else ad (ad o (PR.putS l) (PR.putC l)) ⟨#[]⟩ 130
def qs (o : ByteArray × Int) (n : Int) : ByteArray × Int := if n < 0 ∨ 2 < n then ad o ⟨#[]⟩ 129 else o
def low (n : Int) : Int := n % 4
def sub (o : ByteArray × Int) (s : Sb) : ByteArray × Int := nm (qs (qs (tx o s.f) s.q) s.h) 1 (low s.q + fl s.nl 4 + fl s.ap 8 + 16 * low s.h)
def cflN (p : Pk) : Int := fl p.clean 2 + fl p.hasPass 64 + fl p.hasUser 128 + if p.hasWill = true then 4 + 8 * low p.wqos + fl p.wret 32 else 0
def cfl (o : ByteArray × Int) (p : Pk) : ByteArray × Int := nm (if p.hasWill = true then qs o p.wqos else o) 1 (cflN p)
def conn1 (o : ByteArray × Int) (p : Pk) : ByteArray × Int := tx (pr (nm (cfl (nm (tx o ⟨#[77, 81, 84, 84]⟩) 1 5) p) 2 p.keep) 1 p.props) p.client
def conn2 (o : ByteArray × Int) (p : Pk) : ByteArray × Int := if p.hasWill = true then dt (tx (pr o 0 p.wprops) p.wtopic) p.wpay else o
def conn3 (o : ByteArray × Int) (p : Pk) : ByteArray × Int := if p.hasUser = true then tx o p.user else o
def conn4 (o : ByteArray × Int) (p : Pk) : ByteArray × Int := if p.hasPass = true then dt o p.pass else o
def conn (o : ByteArray × Int) (p : Pk) : ByteArray × Int := conn4 (conn3 (conn2 (conn1 o p) p) p) p
def smo (o : ByteArray × Int) (n : Nat) : ByteArray × Int := if n = 0 then ad o ⟨#[]⟩ 130 else if 64 < n then ad o ⟨#[]⟩ 149 else o
def each {α : Type} (o : ByteArray × Int) (l : List α) (f : ByteArray × Int → α → ByteArray × Int) : ByteArray × Int := (l.take 64).foldl f (smo o l.length)
def head (o : ByteArray × Int) (p : Pk) : ByteArray × Int := pr (idd o p.id) p.kind p.props
def ending (o : ByteArray × Int) (p : Pk) : ByteArray × Int := if p.props = [] then (if p.code = 0 then o else nm o 1 p.code) else pr (nm o 1 p.code) p.kind p.props
def pub0 (o : ByteArray × Int) (p : Pk) : ByteArray × Int := if p.dup = true ∧ p.qos = 0 then ad (qs o p.qos) ⟨#[]⟩ 129 else qs o p.qos
def pub1 (o : ByteArray × Int) (p : Pk) : ByteArray × Int := if 0 < p.qos then idd (tx (pub0 o p) p.topic) p.id else tx (pub0 o p) p.topic
def pub (o : ByteArray × Int) (p : Pk) : ByteArray × Int := ad (pr (pub1 o p) 3 p.props) p.pay 0
def body (o : ByteArray × Int) (p : Pk) : ByteArray × Int :=
  if p.kind = 1 then conn o p
  else if p.kind = 2 then pr (nm (nm o 1 (fl p.session 1)) 1 p.code) 2 p.props
  else if p.kind = 3 then pub o p
  else if p.kind = 8 then each (head o p) p.subs sub
  else if p.kind = 10 then each (head o p) p.filters tx
  else if p.kind = 9 ∨ p.kind = 11 then each (head o p) p.codes (fun o c => nm o 1 c)
  else if p.kind = 4 ∨ p.kind = 5 ∨ p.kind = 6 ∨ p.kind = 7 then ending (idd o p.id) p
  else if p.kind = 14 ∨ p.kind = 15 then ending o p else o

/-- The same code, and where there is none the same bytes. -/
def Sm (o' o : ByteArray × Int) : Prop := o'.2 = o.2 ∧ (o.2 = 0 → o'.1 = o.1)
theorem Sm.refl (o : ByteArray × Int) : Sm o o := ⟨rfl, fun _ => rfl⟩
theorem ad_sm {o' o : ByteArray × Int} (h : Sm o' o) (s : ByteArray) (c : Int) : Sm (ad o' s c) (PK.ad o s c) := by
  unfold ad PK.ad
  rw [h.1]
  by_cases h0 : o.2 = 0
  · rw [if_pos h0, if_neg (show ¬ o.2 ≠ 0 from fun e => e h0)]
    by_cases hc : c = 0
    · rw [if_neg (show ¬ c ≠ 0 from fun e => e hc), hc]
      exact ⟨rfl, fun _ => by rw [h.2 h0]⟩
    · rw [if_pos hc]
      exact ⟨rfl, fun e => absurd e hc⟩
  · rw [if_neg h0, if_pos h0]
    exact ⟨rfl, fun e => absurd e h0⟩
theorem nm_sm {o' o : ByteArray × Int} (h : Sm o' o) (w n : Int) : Sm (nm o' w n) (PK.nm o w n) := ad_sm h _ _
theorem tx_sm {o' o : ByteArray × Int} (h : Sm o' o) (s : ByteArray) : Sm (tx o' s) (PK.tx o s) := ad_sm h _ _
theorem dt_sm {o' o : ByteArray × Int} (h : Sm o' o) (s : ByteArray) : Sm (dt o' s) (PK.dt o s) := ad_sm h _ _
theorem rf_code (o : ByteArray × Int) {c : Int} (hc : c ≠ 0) : (PK.rf o c).2 ≠ 0 := by
  unfold PK.rf PK.ad
  by_cases h0 : o.2 ≠ 0
  · rw [if_pos h0]; exact h0
  · rw [if_neg h0, if_pos hc]; exact hc
theorem idd_sm {o' o : ByteArray × Int} (h : Sm o' o) (n : Int) : Sm (idd o' n) (PK.idd o n) := by
  unfold idd PK.idd
  by_cases hn : n < 1 ∨ 65535 < n
  · rw [if_pos hn, if_pos hn]
    unfold PK.nm
    rw [PK.ad_bad (rf_code o (by decide))]
    exact ad_sm h _ _
  · rw [if_neg hn, if_neg hn]
    exact nm_sm h _ _
theorem pr_sm {o' o : ByteArray × Int} (h : Sm o' o) (k : Int) (l : List Pr) : Sm (pr o' k l) (PK.pr o k l) := by
  unfold pr PK.pr
  split
  · exact ad_sm h _ _
  · exact ad_sm (ad_sm h _ _) _ _
theorem isQ_iff (n : Int) : isQ n = true ↔ ¬ (n < 0 ∨ 2 < n) := by
  unfold isQ
  simp
theorem low_q {n : Int} (h : isQ n = true) : low n = n := by
  have := (isQ_iff n).1 h
  unfold low
  omega
/-- Behind a code nothing counts. -/
theorem bad_sm {o' o : ByteArray × Int} (h : o'.2 = o.2) (h0 : o.2 ≠ 0) : Sm o' o := ⟨h, fun e => absurd e h0⟩
theorem ad_keeps (o : ByteArray × Int) (s : ByteArray) (c : Int) (h : o.2 ≠ 0) : (ad o s c).2 = o.2 := by unfold ad; simp only; rw [if_neg h]
theorem sub_sm {o' o : ByteArray × Int} (h : Sm o' o) (s : Sb) : Sm (sub o' s) (PK.sub o s) := by
  unfold sub PK.sub
  have ht := tx_sm h s.f
  by_cases hq : isQ s.q = true
  · by_cases hh : isQ s.h = true
    · rw [if_pos (by rw [hq, hh]; rfl), low_q hq, low_q hh]
      unfold qs
      rw [if_neg ((isQ_iff _).1 hq), if_neg ((isQ_iff _).1 hh)]
      exact nm_sm ht _ _
    · rw [if_neg (by rw [hq]; simpa using hh)]
      have e : qs (tx o' s.f) s.q = tx o' s.f := by unfold qs; rw [if_neg ((isQ_iff _).1 hq)]
      have e2 : qs (tx o' s.f) s.h = ad (tx o' s.f) ⟨#[]⟩ 129 := by unfold qs; rw [if_pos (Classical.not_not.1 (fun x => hh ((isQ_iff _).2 x)))]
      rw [e, e2]
      have h1 := ad_sm ht ⟨#[]⟩ 129
      have h2 := rf_code (PK.tx o s.f) (c := 129) (by decide)
      refine bad_sm ?_ h2
      unfold nm
      rw [ad_keeps _ _ _ (by rw [h1.1]; exact h2)]
      exact h1.1
  · rw [if_neg (by simp [hq])]
    have e : qs (tx o' s.f) s.q = ad (tx o' s.f) ⟨#[]⟩ 129 := by unfold qs; rw [if_pos (Classical.not_not.1 (fun x => hq ((isQ_iff _).2 x)))]
    rw [e]
    have h1 := ad_sm ht ⟨#[]⟩ 129
    have h2 := rf_code (PK.tx o s.f) (c := 129) (by decide)
    have h3 : (ad (tx o' s.f) ⟨#[]⟩ 129).2 ≠ 0 := by rw [h1.1]; exact h2
    have h4 : (qs (ad (tx o' s.f) ⟨#[]⟩ 129) s.h).2 = (ad (tx o' s.f) ⟨#[]⟩ 129).2 := by
      unfold qs
      split
      · exact ad_keeps _ _ _ h3
      · rfl
    refine bad_sm ?_ h2
    unfold nm
    rw [ad_keeps _ _ _ (by rw [h4]; exact h3), h4]
    exact h1.1
theorem cfl_sm {o' o : ByteArray × Int} (h : Sm o' o) (p : Pk) : Sm (cfl o' p) (PK.cflags o p) := by
  unfold cfl PK.cflags
  by_cases hw : p.hasWill = true
  · rw [if_pos hw]
    by_cases hq : isQ p.wqos = true
    · rw [if_neg (by rw [hw, hq]; decide)]
      have e : cflN p = PK.cflagsN p := by unfold cflN PK.cflagsN; rw [low_q hq]
      unfold qs
      rw [if_neg ((isQ_iff _).1 hq), e]
      exact nm_sm h _ _
    · rw [if_pos (by rw [hw]; simpa using hq)]
      have e : qs o' p.wqos = ad o' ⟨#[]⟩ 129 := by unfold qs; rw [if_pos (Classical.not_not.1 (fun x => hq ((isQ_iff _).2 x)))]
      rw [e]
      have h1 := ad_sm h ⟨#[]⟩ 129
      have h2 := rf_code o (c := 129) (by decide)
      refine bad_sm ?_ h2
      unfold nm
      rw [ad_keeps _ _ _ (by rw [h1.1]; exact h2)]
      exact h1.1
  · have hw' : p.hasWill = false := by simpa using hw
    rw [if_neg hw, if_neg (by rw [hw']; simp)]
    have e : cflN p = PK.cflagsN p := by unfold cflN PK.cflagsN; rw [if_neg hw, if_neg hw]
    rw [e]
    exact nm_sm h _ _
theorem conn_sm {o' o : ByteArray × Int} (h : Sm o' o) (p : Pk) : Sm (conn o' p) (PK.conn o p) := by
  have h1 : Sm (conn1 o' p) (PK.conn1 o p) := tx_sm (pr_sm (nm_sm (cfl_sm (nm_sm (tx_sm h _) _ _) p) _ _) _ _) _
  have h2 : Sm (conn2 (conn1 o' p) p) (PK.conn2 (PK.conn1 o p) p) := by
    unfold conn2 PK.conn2
    split
    · exact dt_sm (tx_sm (pr_sm h1 _ _) _) _
    · exact h1
  have h3 : Sm (conn3 (conn2 (conn1 o' p) p) p) (PK.conn3 (PK.conn2 (PK.conn1 o p) p) p) := by
    unfold conn3 PK.conn3
    split
    · exact tx_sm h2 _
    · exact h2
  unfold conn PK.conn conn4 PK.conn4
  split
  · exact dt_sm h3 _
  · exact h3
theorem fold_sm {α : Type} {f g : ByteArray × Int → α → ByteArray × Int} (hfg : ∀ o' o x, Sm o' o → Sm (f o' x) (g o x)) : ∀ (l : List α) (o' o : ByteArray × Int), Sm o' o → Sm (l.foldl f o') (l.foldl g o)
  | [], _, _, h => h
  | x :: l, _, _, h => fold_sm hfg l _ _ (hfg _ _ x h)
theorem fold_bad {α : Type} {f : ByteArray × Int → α → ByteArray × Int} (hf : ∀ o x, o.2 ≠ 0 → (f o x).2 = o.2) : ∀ (l : List α) (o : ByteArray × Int), o.2 ≠ 0 → (l.foldl f o).2 = o.2
  | [], _, _ => rfl
  | x :: l, o, h => by
    have e := hf o x h
    rw [List.foldl_cons, fold_bad hf l _ (by rw [e]; exact h), e]
theorem each_sm {α : Type} {o' o : ByteArray × Int} (h : Sm o' o) (l : List α) {f g : ByteArray × Int → α → ByteArray × Int} (hfg : ∀ o' o x, Sm o' o → Sm (f o' x) (g o x)) (hf : ∀ o x, o.2 ≠ 0 → (f o x).2 = o.2) : Sm (each o' l f) (PK.eachO o l g) := by
  unfold each PK.eachO smo
  by_cases h0 : l.length = 0
  · rw [if_pos h0, if_pos h0]
    have : l = [] := List.eq_nil_of_length_eq_zero h0
    subst this
    exact ad_sm h _ _
  · rw [if_neg h0, if_neg h0]
    by_cases h1 : 64 < l.length
    · rw [if_pos h1, if_pos h1]
      have h2 := ad_sm h ⟨#[]⟩ 149
      have h3 := rf_code o (c := 149) (by decide)
      refine bad_sm ?_ h3
      rw [fold_bad hf _ _ (by rw [h2.1]; exact h3)]
      exact h2.1
    · rw [if_neg h1, if_neg h1, List.take_of_length_le (by omega)]
      exact fold_sm hfg l _ _ h
theorem ending_sm {o' o : ByteArray × Int} (h : Sm o' o) (p : Pk) : Sm (ending o' p) (PK.ending o p) := by
  unfold ending PK.ending
  by_cases hp : p.props = []
  · rw [if_pos hp]
    by_cases hc : p.code = 0
    · rw [if_pos hc, if_pos ⟨hc, hp⟩]; exact h
    · rw [if_neg hc, if_neg (fun e => hc e.1), if_pos hp]; exact nm_sm h _ _
  · rw [if_neg hp, if_neg (fun e => hp e.2), if_neg hp]; exact pr_sm (nm_sm h _ _) _ _
theorem pub0_sm {o : ByteArray × Int} (p : Pk) (hk : p.kind = 3) (ho : o = (⟨#[]⟩, 0)) : Sm (pub0 o p) (PK.flagsO p) := by
  unfold pub0 PK.flagsO PK.canPub
  subst ho
  by_cases hq : isQ p.qos = true
  · have e : qs ((⟨#[]⟩, 0) : ByteArray × Int) p.qos = (⟨#[]⟩, 0) := by unfold qs; rw [if_neg ((isQ_iff _).1 hq)]
    have hn := (isQ_iff _).1 hq
    rw [e, hq]
    by_cases hd : p.dup = true ∧ p.qos = 0
    · rw [if_pos hd, if_pos ⟨hk, by rw [hd.1, hd.2]; decide⟩]
      exact ⟨rfl, fun e => absurd e (by decide)⟩
    · rw [if_neg hd, if_neg]
      · exact Sm.refl _
      · intro ⟨_, x⟩
        simp at x
        exact hd ⟨x.2, by omega⟩
  · have e : qs ((⟨#[]⟩, 0) : ByteArray × Int) p.qos = (⟨#[]⟩ ++ ⟨#[]⟩, 129) := by unfold qs; rw [if_pos (Classical.not_not.1 (fun x => hq ((isQ_iff _).2 x)))]; rfl
    have hq' : isQ p.qos = false := by simpa using hq
    have e3 : (if p.kind = 3 ∧ (isQ p.qos && (decide (0 < p.qos) || !p.dup)) = false then ((⟨#[]⟩, 129) : ByteArray × Int) else (⟨#[]⟩, 0)) = (⟨#[]⟩, 129) := if_pos ⟨hk, by rw [hq']; rfl⟩
    rw [e, e3]
    split
    · exact ⟨rfl, fun e => absurd e (by decide)⟩
    · exact ⟨rfl, fun e => absurd e (by decide)⟩
theorem nm_keeps (o : ByteArray × Int) (w n : Int) (h : o.2 ≠ 0) : (nm o w n).2 = o.2 := ad_keeps _ _ _ h
theorem tx_keeps (o : ByteArray × Int) (s : ByteArray) (h : o.2 ≠ 0) : (tx o s).2 = o.2 := ad_keeps _ _ _ h
theorem qs_keeps (o : ByteArray × Int) (n : Int) (h : o.2 ≠ 0) : (qs o n).2 = o.2 := by
  unfold qs
  split
  · exact ad_keeps _ _ _ h
  · rfl
theorem sub_keeps (o : ByteArray × Int) (s : Sb) (h : o.2 ≠ 0) : (sub o s).2 = o.2 := by
  unfold sub
  have h1 := tx_keeps o s.f h
  have h2 := qs_keeps (tx o s.f) s.q (by rw [h1]; exact h)
  have h3 := qs_keeps (qs (tx o s.f) s.q) s.h (by rw [h2, h1]; exact h)
  rw [nm_keeps _ _ _ (by rw [h3, h2, h1]; exact h), h3, h2, h1]
theorem body_sm (p : Pk) : Sm (body (⟨#[]⟩, 0) p) (PK.bodyO p) := by
  unfold PK.bodyO body PK.parts
  have hfl : p.kind ≠ 3 → PK.flagsO p = (⟨#[]⟩, 0) := fun h => by unfold PK.flagsO; rw [if_neg (fun e => h e.1)]
  have r := Sm.refl ((⟨#[]⟩, 0) : ByteArray × Int)
  by_cases k1 : p.kind = 1
  · rw [if_pos k1, if_pos k1, hfl (by omega)]; exact conn_sm r p
  rw [if_neg k1, if_neg k1]
  by_cases k2 : p.kind = 2
  · rw [if_pos k2, if_pos k2, hfl (by omega), k2]; exact pr_sm (nm_sm (nm_sm r _ _) _ _) _ _
  rw [if_neg k2, if_neg k2]
  by_cases k3 : p.kind = 3
  · rw [if_pos k3, if_pos k3]
    unfold pub PK.pub
    have h0 := pub0_sm (o := (⟨#[]⟩, 0)) p k3 rfl
    have h1 : Sm (pub1 (⟨#[]⟩, 0) p) (PK.pub1 (PK.flagsO p) p) := by
      unfold pub1 PK.pub1
      split
      · exact idd_sm (tx_sm h0 _) _
      · exact tx_sm h0 _
    rw [k3]
    exact ad_sm (pr_sm h1 _ _) _ _
  rw [if_neg k3, if_neg k3, hfl k3]
  have hh : Sm (head (⟨#[]⟩, 0) p) (PK.head (⟨#[]⟩, 0) p) := pr_sm (idd_sm r _) _ _
  by_cases k8 : p.kind = 8
  · rw [if_pos k8, if_pos k8]; exact each_sm hh _ (fun _ _ x h => sub_sm h x) sub_keeps
  rw [if_neg k8, if_neg k8]
  by_cases k10 : p.kind = 10
  · rw [if_pos k10, if_pos k10]; exact each_sm hh _ (fun _ _ x h => tx_sm h x) tx_keeps
  rw [if_neg k10, if_neg k10]
  by_cases k9 : p.kind = 9 ∨ p.kind = 11
  · rw [if_pos k9, if_pos k9]; exact each_sm hh _ (fun _ _ x h => nm_sm h _ _) (fun o c h => nm_keeps o _ _ h)
  rw [if_neg k9, if_neg k9]
  by_cases k4 : p.kind = 4 ∨ p.kind = 5 ∨ p.kind = 6 ∨ p.kind = 7
  · rw [if_pos k4, if_pos k4]; exact ending_sm (idd_sm r _) p
  rw [if_neg k4, if_neg k4]
  by_cases k14 : p.kind = 14 ∨ p.kind = 15
  · rw [if_pos k14, if_pos k14]; exact ending_sm r p
  rw [if_neg k14, if_neg k14]
  exact r
end RP
end Go.Proofs.YtmldnaadjhnfcaaGreatDoor
namespace Go.Proofs.YtmldnaadjhnfcaaGreatDoor
open Go.RowKit
attribute [local go_sem ↓] Go.wp_at_zero Go.wp_at_succ

/-- Bytes so far and a code, as the document's functions hand them on. -/
def oC (o : ByteArray × Int) : Array Value := #[.string o.1, .int .i64 o.2]
theorem oC_one (o : ByteArray × Int) : (oC o).all (·.oneCell') = true := by simp [oC, Value.oneCell']
/-- What such a function answers. -/
def OP (w : World) (o : ByteArray × Int) (e : Ending) (w' : World) : Prop := e = .returned (.agg (oC o)) ∧ Below w.heap.size w w'
theorem sr_heap {w : World} {g : Nat} {old cs : Array Value} {t : TypeId} (h : w.heap[g]? = some (.cells old t (0, 0))) : (w.setRow g cs).heap[g]? = some (.cells cs t (0, 0)) := by
  simp [World.setRow, Array.getElem?_modify, h]
theorem sr_other {w : World} {g i : Nat} (cs : Array Value) (h : i ≠ g) : (w.setRow g cs).heap[i]? = w.heap[i]? := by
  simp [World.setRow, Array.getElem?_modify, Ne.symm h]
theorem sr_below {n g : Nat} {w w' : World} (h : Below n w w') (hg : n ≤ g) (cs : Array Value) : Below n w (w'.setRow g cs) :=
  ⟨h.os, h.tape, h.output, by simp [World.setRow]; exact h.size, fun i hi => (sr_other cs (by omega)).trans (h.block i hi)⟩
theorem fixL_size (wd n : Int) : (strOfNums (VP.fixL wd n)).size ≤ 4 := by
  rw [strOfNums_size]
  unfold VP.fixL
  repeat' split
  all_goals simp

theorem dt_le (s : ByteArray) : (TX.dataS s).size ≤ 65537 := by
  unfold TX.dataS
  split
  · have e : (strOfNums [(s.size : Int) / 256, (s.size : Int) % 256]).size = 2 := rfl
    rw [ByteArray.size_append, e]
    omega
  · exact Nat.zero_le _
theorem tx_le (s : ByteArray) : (TX.putS s).size ≤ 65537 := by
  unfold TX.putS
  split
  · exact Nat.zero_le _
  · exact dt_le s
theorem dbit_any (b : Bool) (n : Int) (w : World) : Calls Tryz.prog 51 #[.bool b, .int .i64 n] w fun e w' => e = .returned (.int .i64 (PK.fl b n)) ∧ w = w' := by
  unfold PK.fl
  cases b
  · go_enter Tryz.func51, Tryz.ntmps51
    go_wp2
    go_ret
    exact ⟨rfl, rfl⟩
  · go_enter Tryz.func51, Tryz.ntmps51
    go_wp2
    go_ret
    exact ⟨rfl, rfl⟩
theorem tmod4 (n : Int) : (n.tmod 4 = n % 4 ∧ (0 ≤ n ∨ (4 : Int) ∣ n)) ∨ (n.tmod 4 = n % 4 - 4 ∧ ¬ (0 ≤ n ∨ (4 : Int) ∣ n)) := by
  by_cases h : 0 ≤ n ∨ (4 : Int) ∣ n
  · left
    exact ⟨by rw [Int.tmod_eq_emod, if_pos h]; simp, h⟩
  · right
    exact ⟨by rw [Int.tmod_eq_emod, if_neg h]; rfl, h⟩
theorem low_t (n : Int) : RP.low n = if n.tmod 4 < 0 then n.tmod 4 + 4 else n.tmod 4 := by
  unfold RP.low
  rcases tmod4 n with ⟨e, h⟩ | ⟨e, h⟩
  · rw [e, if_neg (by omega)]
  · rw [e, if_pos (by omega)]
    omega
set_option linter.unusedSimpArgs false in
set_option maxRecDepth 100000 in
set_option maxHeartbeats 1000000 in
theorem dall_any (kd : Int) (A : Option Addr) (cap : Nat) (l : List Pr) (w : World) (hl : l.length ≤ 100) (h : Props w A l) :
    Calls Tryz.prog 97 #[.int .i64 kd, .slice A l.length cap] w fun e w' => e = .returned (.bool (PK.alAll kd l)) ∧ Below w.heap.size w w' := by
  have H := Lib.hid h
  clear h
  go_enter Tryz.func97, Tryz.ntmps97
  go_wp2
  go_loopw [5] (fun i wr => ∃ k : Nat, i = .int .i64 k ∧ k ≤ l.length ∧ Hid (PK.alAll kd (l.drop k) = PK.alAll kd l) ∧ Hid (Below w.heap.size w wr)) (fun i _ => l.length - (intOf i).toNat)
  case atStart => exact ⟨0, rfl, by omega, Lib.hid rfl, Lib.hid (Below.refl _ _)⟩
  case round =>
    obtain ⟨k, rfl, hk, hk1, hbr⟩ := hrel
    have hsr := hbr.out.size
    by_cases hlt : k < l.length
    · obtain ⟨p, hp⟩ : ∃ p, l[k]? = some p := ⟨l[k], List.getElem?_eq_getElem hlt⟩
      obtain ⟨g, o, rfl, hg, r0, r1, r2, r3⟩ := H.out k p hp
      have q0 : wr.cell? ⟨g, o + k * 4, none⟩ = some (.int .i64 p.id) := by rw [hbr.out.cell (by simp; omega)]; exact r0
      have C := Lib.hid (rallowed_any kd p.id wr)
      have i1 : (k : Int) < (l.length : Int) := by omega
      have i0 : (0 : Int) ≤ (k : Int) := by omega
      have E1 : PK.alAll kd (l.drop k) = (PK.al kd p.id && PK.alAll kd (l.drop (k + 1))) := by rw [prop_drop hp]; rfl
      clear r0 r1 r2 r3
      by_cases he : PK.al kd p.id = true
      · rw [he, Bool.true_and] at E1
        rw [he] at C
        have HE := Lib.hid E1
        clear hp he E1
        go_wp2_with fail
        refine C.out.mono ?_
        rintro e w1 ⟨rfl, b1⟩
        have B1 := Lib.hid (hbr.out.trans (b1.mono hsr))
        clear b1 C
        go_wp2_with fail
        go_roundw
        case rel => exact ⟨k + 1, by go_num, by omega, Lib.hid (by rw [← HE.out]; exact hk1.out), B1⟩
        case measure => simp [intOf]; omega
      · have he' : PK.al kd p.id = false := by simpa using he
        rw [he', Bool.false_and] at E1
        rw [he'] at C
        have HE := Lib.hid E1
        clear hp he he' E1
        go_wp2_with fail
        refine C.out.mono ?_
        rintro e w1 ⟨rfl, b1⟩
        have B1 := Lib.hid (hbr.out.trans (b1.mono hsr))
        clear b1 C
        go_wp2_with fail
        go_ret
        exact ⟨by rw [← hk1.out, HE.out]; rfl, B1.out⟩
    · have hkl : k = l.length := by omega
      subst hkl
      go_wp2
      go_ret
      exact ⟨by rw [← hk1.out, List.drop_length]; rfl, hbr.out⟩
end Go.Proofs.YtmldnaadjhnfcaaGreatDoor
namespace Go.Proofs.YtmldnaadjhnfcaaGreatDoor

namespace PK
theorem getG_zero (s : ByteArray) (k : Nat) : ∀ (u i : Nat) (n : Int), (VP.getG s k u i n).2.2 ≠ 0 → (VP.getG s k u i n).1 = 0
  | 0, _, _, _ => by rw [VP.getG_0]
  | u + 1, i, n, h => by
    rw [VP.getG] at h ⊢
    split
    · rename_i h1
      rw [dif_pos h1] at h
      split
      · rename_i h2
        rw [if_pos h2] at h
        split
        · rename_i h3
          rw [if_pos h3] at h
          exact absurd rfl h
        · rfl
      · rename_i h2
        rw [if_neg h2] at h
        exact getG_zero s k u (i + 1) _ h
    · rfl
theorem get_le (s : ByteArray) (a : Int) : (VP.get s a).1 ≤ 268435455 := by
  by_cases ho : a < 0 ∨ (s.size : Int) < a
  · rw [VP.get_out s a ho]; decide
  · obtain ⟨k, rfl⟩ := Int.eq_ofNat_of_zero_le (show 0 ≤ a by omega)
    by_cases hc : (VP.get s (k : Int)).2.2 = 0
    · obtain ⟨x, m, _, _, h3, h4, _, h6, _⟩ := VP.get_inv s k (by omega) hc
      rw [h6]; exact h4
    · rw [VP.get_in s k (by omega)] at hc ⊢
      rw [getG_zero s k 4 0 0 hc]; decide
theorem dat_le (s : ByteArray) (a : Int) : (VP.dat s a).1.size ≤ s.size := by
  unfold VP.dat
  split
  · split
    · exact Nat.zero_le _
    · simp only; rw [ByteArray.size_extract]; omega
  · exact Nat.zero_le _
theorem getT_le (s : ByteArray) (a : Int) : (TX.getT s a).1.size ≤ s.size := by
  unfold TX.getT
  split
  · exact Nat.zero_le _
  · split
    · exact Nat.zero_le _
    · exact dat_le s a
theorem rdv_fine (T : ByteArray) (p id : Int) (hT : T.size ≤ 140737488351232) : Fine (PR.rdv T p id).1 := by
  have z : (ByteArray.mk #[]).size = 0 := rfl
  have g1 := PR.get_nn T p
  have g2 := get_le T p
  have d1 := dat_le T p
  have t1 := getT_le T p
  have t2 := getT_le T (TX.getT T p).2.1
  have r1 := rd_nn T p (PR.wd (PR.kd id))
  unfold PR.rdv
  repeat' split
  all_goals
    refine ⟨⟨?_, ?_⟩, ?_, ?_⟩ <;> simp only [z] <;> omega
theorem g1_fine (T : ByteArray) (p : Int) (out : List Pr) (hT : T.size ≤ 140737488351232) (h : (PR.g1 T p out).2.2 = 0) : Fine (PR.g1 T p out).1 := by
  unfold PR.g1 at h ⊢
  split at h
  · exact absurd h (by simp)
  · rename_i c1
    rw [if_neg c1]
    split at h
    · exact absurd h (by simp)
    · rename_i c2
      rw [if_neg c2]
      split at h
      · rename_i c3; exact absurd h c3
      · rename_i c3
        rw [if_neg c3]
        split at h
        · exact absurd h (by simp)
        · rename_i c4
          rw [if_neg c4]
          exact rdv_fine _ _ _ hT
theorem gl_fine (U : ByteArray) (hU : U.size ≤ 140737488351232) : ∀ (u : Nat) (p : Int) (out : List Pr), (∀ q ∈ out, Fine q) → ∀ q ∈ (PR.gl U u p out).1, Fine q
  | 0, _, _, _ => by intro q hq; simp [PR.gl] at hq
  | u + 1, p, out, ho => by
    rw [PR.gl]
    split
    · exact ho
    · split
      · intro q hq; simp at hq
      · rename_i h1
        refine gl_fine U hU u _ _ ?_
        intro q hq
        rcases List.mem_append.1 hq with hq | hq
        · exact ho q hq
        · simp at hq; subst hq; exact g1_fine U p out hU (Classical.not_not.1 h1)
theorem getL_fine (s : ByteArray) (a : Int) (hs : s.size ≤ 140737488351232) : ∀ q ∈ (PR.getL s a).1, Fine q := by
  unfold PR.getL
  repeat' split
  all_goals first
    | (intro q hq; simp at hq; done)
    | exact gl_fine _ (by rw [ByteArray.size_extract]; omega) 66 0 [] (fun q hq => by cases hq)
end PK
/-- A packet whose every part a machine can hold. -/
structure PkF (P : Pk) : Prop where
  fine : PkFine P
  pr : P.props.length ≤ 100 ∧ ∀ p ∈ P.props, Fine p
  wpr : P.wprops.length ≤ 100 ∧ ∀ p ∈ P.wprops, Fine p
namespace PK
theorem and3 (n : Int) (h0 : 0 ≤ n) (h1 : n ≤ 255) : 0 ≤ bits .and .i64 n 3 ∧ bits .and .i64 n 3 ≤ 3 := by
  obtain ⟨k, rfl⟩ := Int.eq_ofNat_of_zero_le h0
  have h : ∀ k : Fin 256, 0 ≤ bits .and .i64 ((k.val : Nat) : Int) 3 ∧ bits .and .i64 ((k.val : Nat) : Int) 3 ≤ 3 := by decide +kernel
  exact h ⟨k, by omega⟩
theorem i64_of {n : Int} (h0 : 0 ≤ n) (h1 : n ≤ 4294967295) : I64 n := ⟨by omega, by omega⟩
theorem bnd_f {α : Type} {P : Pk} {x : α × Int × Int} {f : α → Int → Pk × Int × Int} (hP : PkF P) (h : PkF (f x.1 x.2.1).1) : PkF (bnd P x f).1 := by
  unfold bnd
  split
  · exact hP
  · exact h
theorem rdPr_f (s : ByteArray) (a k : Int) (hs : s.size ≤ 140737488351232) : (rdPr s a k).1.length ≤ 100 ∧ ∀ p ∈ (rdPr s a k).1, Fine p :=
  ⟨by have := (PR.getL_facts s a).2.2; show (PR.getL s a).1.length ≤ 100; omega, getL_fine s a hs⟩
theorem lst_le {α : Type} (rd : Int → α × Int × Int) (sz : Nat) : ∀ (u : Nat) (a : Int) (out : List α), out.length ≤ 64 → (lst rd sz u a out).1.length ≤ 64
  | 0, _, _, _ => by simp [lst]
  | u + 1, a, out, h => by
    rw [lst]
    split
    · split
      · simp
      · exact h
    · split
      · simp
      · split
        · simp
        · exact lst_le rd sz u _ _ (by simp; omega)
theorem lst_all {α : Type} (rd : Int → α × Int × Int) (sz : Nat) (p : α → Prop) (hp : ∀ a, p (rd a).1) : ∀ (u : Nat) (a : Int) (out : List α), (∀ x ∈ out, p x) → ∀ x ∈ (lst rd sz u a out).1, p x
  | 0, _, _, _ => by intro x hx; simp [lst] at hx
  | u + 1, a, out, h => by
    rw [lst]
    split
    · split
      · intro x hx; simp at hx
      · exact h
    · split
      · intro x hx; simp at hx
      · split
        · intro x hx; simp at hx
        · refine lst_all rd sz p hp u _ _ ?_
          intro x hx
          rcases List.mem_append.1 hx with hx | hx
          · exact h x hx
          · simp at hx; subst hx; exact hp a
end PK
end Go.Proofs.YtmldnaadjhnfcaaGreatDoor
namespace Go.Proofs.YtmldnaadjhnfcaaGreatDoor
open Go.RowKit

namespace PK
theorem rdC_u8 (s : ByteArray) (a : Int) : 0 ≤ (rdC s a).1 ∧ (rdC s a).1 ≤ 255 := ⟨(rd_nn s a 1).1, rd_1le s a⟩
theorem rdSub_f (s : ByteArray) (hs : s.size ≤ 140737488351232) (a : Int) : SbFine (rdSub s a).1 := by
  have h1 := getT_le s a
  have h2 := rd_nn s (TX.getT s a).2.1 1
  have h3 := rd_1le s (TX.getT s a).2.1
  have b1 := and3 _ h2.1 h3
  have b2 := and3 ((VP.rd s (TX.getT s a).2.1 1).1 / 16) (by omega) (by omega)
  exact ⟨Nat.le_trans h1 hs, ⟨by show _ ≤ bits .and .i64 _ 3; omega, by show bits .and .i64 _ 3 ≤ _; omega⟩, ⟨by show _ ≤ bits .and .i64 _ 3; omega, by show bits .and .i64 _ 3 ≤ _; omega⟩⟩
theorem rdN_i (s : ByteArray) (a wd : Int) : I64 (rdN s a wd).1 := i64_of (rd_nn s a wd).1 (rd_nn s a wd).2
theorem rdId_i (s : ByteArray) (a : Int) : I64 (rdId s a).1 := i64_of (rd_nn s a 2).1 (rd_nn s a 2).2
theorem rdT_s (s : ByteArray) (hs : s.size ≤ 140737488351232) (a : Int) : Short (rdT s a).1 := Nat.le_trans (getT_le s a) hs
theorem rdD_s (s : ByteArray) (hs : s.size ≤ 140737488351232) (a : Int) : Short (rdD s a).1 := Nat.le_trans (dat_le s a) hs
section
variable {s : ByteArray} (hs : s.size ≤ 140737488351232)
include hs
theorem rdPass_f' (a : Int) (P : Pk) (h : PkF P) : PkF (rdPass s a P).1 := by
  unfold rdPass
  split
  · refine bnd_f h ?_
    obtain ⟨⟨k1, k2, k3, k4, k5, k6, k7, k8, k9, k10, k11, k12, k13, k14, k15, k16⟩, p1, p2⟩ := h
    exact ⟨⟨k1, k2, k3, k4, k5, k6, k7, k8, k9, k10, k11, k12, rdD_s s hs a, k14, k15, k16⟩, p1, p2⟩
  · exact h
theorem rdUser_f' (a : Int) (P : Pk) (h : PkF P) : PkF (rdUser s a P).1 := by
  unfold rdUser
  split
  · refine bnd_f h (rdPass_f' hs _ _ ?_)
    obtain ⟨⟨k1, k2, k3, k4, k5, k6, k7, k8, k9, k10, k11, k12, k13, k14, k15, k16⟩, p1, p2⟩ := h
    exact ⟨⟨k1, k2, k3, k4, k5, k6, k7, k8, k9, k10, k11, rdT_s s hs a, k13, k14, k15, k16⟩, p1, p2⟩
  · exact rdPass_f' hs _ _ h
theorem rdWill_f' (a : Int) (P : Pk) (h : PkF P) : PkF (rdWill s a P).1 := by
  unfold rdWill
  split
  · refine bnd_f h (bnd_f h (bnd_f h (rdUser_f' hs _ _ ?_)))
    obtain ⟨⟨k1, k2, k3, k4, k5, k6, k7, k8, k9, k10, k11, k12, k13, k14, k15, k16⟩, p1, p2⟩ := h
    exact ⟨⟨k1, k2, k3, k4, k5, k6, k7, k8, rdT_s s hs _, rdD_s s hs _, k11, k12, k13, k14, k15, k16⟩, p1, rdPr_f s a 0 hs⟩
  · exact rdUser_f' hs _ _ h
theorem rdConn1_f (a : Int) (P : Pk) (h : PkF P) : PkF (rdConn1 s a P).1 := by
  unfold rdConn1
  refine bnd_f h (bnd_f h (bnd_f h (rdWill_f' hs _ _ ?_)))
  obtain ⟨⟨k1, k2, k3, k4, k5, k6, k7, k8, k9, k10, k11, k12, k13, k14, k15, k16⟩, p1, p2⟩ := h
  exact ⟨⟨k1, k2, k3, k4, k5, k6, rdT_s s hs _, rdN_i s _ 2, k9, k10, k11, k12, k13, k14, k15, k16⟩, rdPr_f s _ P.kind hs, p2⟩
theorem rdConn_f (a : Int) (P : Pk) (h : PkF P) : PkF (rdConn s a P).1 := by
  unfold rdConn
  refine bnd_f h ?_
  split
  · exact h
  · refine bnd_f h ?_
    split
    · exact h
    · refine bnd_f h (rdConn1_f hs _ _ ?_)
      have n0 := (rd_nn s (rdN s (rdT s a).2.1 1).2.1 1).1
      have n1 := rd_1le s (rdN s (rdT s a).2.1 1).2.1
      have b := and3 ((VP.rd s (rdN s (rdT s a).2.1 1).2.1 1).1 / 8) (by omega) (by omega)
      obtain ⟨⟨k1, k2, k3, k4, k5, k6, k7, k8, k9, k10, k11, k12, k13, k14, k15, k16⟩, p1, p2⟩ := h
      exact ⟨⟨k1, k2, k3, k4, k5, k6, k7, k8, k9, k10, i64_of b.1 (Int.le_trans b.2 (by decide)), k12, k13, k14, k15, k16⟩, p1, p2⟩
theorem rdEndP_f (a k : Int) (P : Pk) (h : PkF P) : PkF (rdEndP s a k P).1 := by
  obtain ⟨⟨k1, k2, k3, k4, k5, k6, k7, k8, k9, k10, k11, k12, k13, k14, k15, k16⟩, p1, p2⟩ := h
  have e : (0 ≤ (rdEnd s a k).1.1 ∧ (rdEnd s a k).1.1 ≤ 255) ∧ ((rdEnd s a k).1.2.length ≤ 100 ∧ ∀ p ∈ (rdEnd s a k).1.2, Fine p) := by
    unfold rdEnd
    repeat' split
    · exact ⟨⟨Int.le_refl 0, (by decide : (0 : Int) ≤ 255)⟩, by simp, fun p hp => by cases hp⟩
    · exact ⟨⟨Int.le_refl 0, (by decide : (0 : Int) ≤ 255)⟩, by simp, fun p hp => by cases hp⟩
    · exact ⟨rdC_u8 s a, by simp, fun p hp => by cases hp⟩
    · exact ⟨rdC_u8 s a, rdPr_f s _ k hs⟩
  exact ⟨⟨k1, k2, k3, k4, k5, e.1, k7, k8, k9, k10, k11, k12, k13, k14, k15, k16⟩, e.2, p2⟩
theorem partsK_f (k a : Int) (P : Pk) (h : PkF P) : PkF (partsK k s a P).1 := by
  unfold partsK
  split
  · exact rdConn_f hs a P h
  split
  · refine bnd_f h (bnd_f h (bnd_f h ?_))
    obtain ⟨⟨k1, k2, k3, k4, k5, k6, k7, k8, k9, k10, k11, k12, k13, k14, k15, k16⟩, p1, p2⟩ := h
    exact ⟨⟨k1, k2, k3, k4, k5, rdC_u8 s _, k7, k8, k9, k10, k11, k12, k13, k14, k15, k16⟩, rdPr_f s _ k hs, p2⟩
  split
  · obtain ⟨⟨k1, k2, k3, k4, k5, k6, k7, k8, k9, k10, k11, k12, k13, k14, k15, k16⟩, p1, p2⟩ := h
    refine ⟨⟨k1, k2, ?_, rdT_s s hs a, ?_, k6, k7, k8, k9, k10, k11, k12, k13, k14, k15, k16⟩, rdPr_f s _ k hs, p2⟩
    · show I64 (rdI s (rdT s a).2.1 P.qos P.id).1
      unfold rdI
      split
      · exact rdId_i s _
      · exact k3
    · show (s.extract _ s.size).size ≤ _
      rw [ByteArray.size_extract]; omega
  split
  · refine bnd_f h (bnd_f h ?_)
    obtain ⟨⟨k1, k2, k3, k4, k5, k6, k7, k8, k9, k10, k11, k12, k13, k14, k15, k16⟩, p1, p2⟩ := h
    exact ⟨⟨k1, k2, rdId_i s a, k4, k5, k6, k7, k8, k9, k10, k11, k12, k13, k14, ⟨Nat.le_trans (lst_le _ _ 66 _ [] (by simp)) (by decide), lst_all _ _ _ (rdSub_f s hs) 66 _ [] (fun x hx => by cases hx)⟩, k16⟩, rdPr_f s _ k hs, p2⟩
  split
  · refine bnd_f h (bnd_f h ?_)
    obtain ⟨⟨k1, k2, k3, k4, k5, k6, k7, k8, k9, k10, k11, k12, k13, k14, k15, k16⟩, p1, p2⟩ := h
    exact ⟨⟨k1, k2, rdId_i s a, k4, k5, k6, k7, k8, k9, k10, k11, k12, k13, k14, k15, ⟨Nat.le_trans (lst_le _ _ 66 _ [] (by simp)) (by decide), lst_all _ _ _ (rdT_s s hs) 66 _ [] (fun x hx => by cases hx)⟩⟩, rdPr_f s _ k hs, p2⟩
  split
  · refine bnd_f h (bnd_f h ?_)
    obtain ⟨⟨k1, k2, k3, k4, k5, k6, k7, k8, k9, k10, k11, k12, k13, k14, k15, k16⟩, p1, p2⟩ := h
    exact ⟨⟨k1, k2, rdId_i s a, k4, k5, k6, k7, k8, k9, k10, k11, k12, k13, ⟨Nat.le_trans (lst_le _ _ 66 _ [] (by simp)) (by decide), lst_all _ _ (fun c => 0 ≤ c ∧ c ≤ 255) (rdC_u8 s) 66 _ [] (fun x hx => by cases hx)⟩, k15, k16⟩, rdPr_f s _ k hs, p2⟩
  split
  · refine bnd_f h (rdEndP_f hs _ _ _ ?_)
    obtain ⟨⟨k1, k2, k3, k4, k5, k6, k7, k8, k9, k10, k11, k12, k13, k14, k15, k16⟩, p1, p2⟩ := h
    exact ⟨⟨k1, k2, rdId_i s a, k4, k5, k6, k7, k8, k9, k10, k11, k12, k13, k14, k15, k16⟩, p1, p2⟩
  split
  · exact rdEndP_f hs _ _ _ h
  · exact h
end
theorem bare_f (k : Int) (d r : Bool) (q : Int) (hk : I64 k) (hq : I64 q) : PkF (barePk k d r q) := by
  have z : Short (ByteArray.mk #[]) := Nat.zero_le _
  have i0 : I64 0 := ⟨by decide, by decide⟩
  exact ⟨⟨hk, hq, i0, z, z, ⟨(by decide : (0 : Int) ≤ 0), (by decide : (0 : Int) ≤ 255)⟩, z, i0, z, z, i0, z, z, ⟨Nat.zero_le _, fun c hc => by cases hc⟩, ⟨Nat.zero_le _, fun c hc => by cases hc⟩, ⟨Nat.zero_le _, fun c hc => by cases hc⟩⟩, ⟨Nat.zero_le _, fun c hc => by cases hc⟩, ⟨Nat.zero_le _, fun c hc => by cases hc⟩⟩
theorem begPk_f (n : Int) (h0 : 0 ≤ n) (h1 : n ≤ 255) : PkF (begPk n) := by
  unfold begPk
  split
  · have b := and3 (n % 16 / 2) (by omega) (by omega)
    exact bare_f _ _ _ _ ⟨by decide, by decide⟩ (i64_of b.1 (Int.le_trans b.2 (by decide)))
  · exact bare_f _ _ _ _ ⟨by omega, by omega⟩ ⟨by decide, by decide⟩
theorem b0_u8 (s : ByteArray) : 0 ≤ b0 s ∧ b0 s ≤ 255 := by
  unfold b0
  split
  · rename_i h
    have := VP.byte_lt s 0 h
    omega
  · exact ⟨by decide, by decide⟩
theorem getPk_f (s : ByteArray) (hs : s.size ≤ 140737488351232) : PkF (getPk s).1 := by
  have hz : PkF zeroPk := bare_f 0 false false 0 ⟨by decide, by decide⟩ ⟨by decide, by decide⟩
  unfold getPk
  repeat' split
  all_goals first
    | exact hz
    | exact partsK_f hs _ _ _ (begPk_f _ (b0_u8 s).1 (b0_u8 s).2)
end PK
theorem own_codes {w : World} {B : Nat} {A : Option Addr} {n cap : Nat} {l : List Int} (h : w.ownsRow B 23 1 (.slice A n cap) n (flatC l)) : Codes w A l := fun i x hx => by
  have hn : l.length = n := by simpa [flatC] using h.1
  have hi : i < l.length := (List.getElem?_eq_some_iff.1 hx).1
  obtain ⟨g, c', hv, hg, hg'⟩ := h.form (by omega)
  injection hv with hv _ _
  subst hv
  refine ⟨g, 0, rfl, hg', ?_⟩
  rw [Nat.zero_add, ← add0]
  exact h.cells (g := g) rfl i _ (by rw [flatC, List.getElem?_map, hx]; rfl)
theorem own_texts {w : World} {B : Nat} {A : Option Addr} {n cap : Nat} {l : List ByteArray} (h : w.ownsRow B 9 1 (.slice A n cap) n (flatT l)) : Texts w A l := fun i x hx => by
  have hn : l.length = n := by simpa [flatT] using h.1
  have hi : i < l.length := (List.getElem?_eq_some_iff.1 hx).1
  obtain ⟨g, c', hv, hg, hg'⟩ := h.form (by omega)
  injection hv with hv _ _
  subst hv
  refine ⟨g, 0, rfl, hg', ?_⟩
  rw [Nat.zero_add, ← add0]
  exact h.cells (g := g) rfl i _ (by rw [flatT, List.getElem?_map, hx]; rfl)
theorem flatB_at : ∀ (l : List Sb) (i : Nat) (s : Sb), l[i]? = some s → (flatB l)[i * 5]? = some (.string s.f) ∧ (flatB l)[i * 5 + 1]? = some (.int .i64 s.q) ∧ (flatB l)[i * 5 + 2]? = some (.bool s.nl) ∧ (flatB l)[i * 5 + 3]? = some (.bool s.ap) ∧ (flatB l)[i * 5 + 4]? = some (.int .i64 s.h)
  | [], i, s, h => by simp at h
  | x :: l, 0, s, h => by simp at h; subst h; simp [flatB, Sb.cells]
  | x :: l, i + 1, s, h => by
    have ih := flatB_at l i s (by simpa using h)
    have e : ∀ j, (flatB (x :: l))[(i + 1) * 5 + j]? = (flatB l)[i * 5 + j]? := fun j => by
      have : (i + 1) * 5 + j = 5 + (i * 5 + j) := by omega
      rw [this]
      simp only [flatB, List.flatMap_cons]
      rw [List.getElem?_append_right (by simp [Sb.cells])]
      simp [Sb.cells]
    have e0 := e 0
    simp only [Nat.add_zero] at e0
    rw [e0, e 1, e 2, e 3, e 4]
    exact ih
theorem own_subs {w : World} {B : Nat} {A : Option Addr} {n cap : Nat} {l : List Sb} (hn : l.length = n) (h : w.ownsRow B 66 5 (.slice A n cap) n (flatB l)) : Subs w A l := fun i x hx => by
  have hi : i < l.length := (List.getElem?_eq_some_iff.1 hx).1
  obtain ⟨g, c', hv, hg, hg'⟩ := h.form (by omega)
  injection hv with hv _ _
  subst hv
  obtain ⟨f0, f1, f2, f3, f4⟩ := flatB_at l i x hx
  refine ⟨g, 0, rfl, hg', ?_, ?_, ?_, ?_, ?_⟩
  · rw [Nat.zero_add, ← add0]; exact h.cells (g := g) rfl _ _ f0
  · rw [Nat.zero_add, ← add0]; exact h.cells (g := g) rfl _ _ f1
  · rw [Nat.zero_add, ← add0]; exact h.cells (g := g) rfl _ _ f2
  · rw [Nat.zero_add, ← add0]; exact h.cells (g := g) rfl _ _ f3
  · rw [Nat.zero_add, ← add0]; exact h.cells (g := g) rfl _ _ f4
/-- A packet that was read, as Put takes one. -/
theorem own5_in {B : Nat} {P : Pk} {vc vp vw vs vf : Value} {w : World} (h : Own5 B P vc vp vw vs vf w) (hf : PkF P) (hT : ∀ W, Below w.heap.size w W → Tabs W) : PkIn w.heap.size w P vc vp vw vs vf := by
  obtain ⟨A1, n1, rfl⟩ := own_form h.codes
  obtain ⟨A2, n2, rfl⟩ := own_form h.props
  obtain ⟨A3, n3, rfl⟩ := own_form h.wprops
  obtain ⟨A4, n4, rfl⟩ := own_form h.subs
  obtain ⟨A5, n5, rfl⟩ := own_form h.filters
  exact ⟨hf.fine, hT, ⟨A2, n2, rfl, fun W hW => ⟨(own_props h.props).below hW, hf.pr.1, own_cap h.props, own_capmax h.props, hf.pr.2⟩⟩, ⟨A3, n3, rfl, fun W hW => ⟨(own_props h.wprops).below hW, hf.wpr.1, own_cap h.wprops, own_capmax h.wprops, hf.wpr.2⟩⟩,
    ⟨A1, n1, rfl, fun W hW => (own_codes h.codes).below hW⟩, ⟨A4, n4, rfl, fun W hW => (own_subs rfl h.subs).below hW⟩, ⟨A5, n5, rfl, fun W hW => (own_texts h.filters).below hW⟩⟩
end Go.Proofs.YtmldnaadjhnfcaaGreatDoor
namespace Go.Proofs.YtmldnaadjhnfcaaGreatDoor
open Go.RowKit
attribute [local go_sem ↓] Go.wp_at_zero Go.wp_at_succ

section
variable {w W W' : World} {P : Pk} {vc vp vw vs vf : Value} {o r : ByteArray × Int}
end
theorem ad_sz (o : ByteArray × Int) (s : ByteArray) (c : Int) : (RP.ad o s c).1.size = o.1.size + s.size := by show (o.1 ++ s).size = _; rw [ByteArray.size_append]
theorem nm_sz (o : ByteArray × Int) (a b : Int) : (RP.nm o a b).1.size ≤ o.1.size + 8388996 := by unfold RP.nm; rw [ad_sz]; have := fixL_size a b; omega
theorem tx_sz (o : ByteArray × Int) (s : ByteArray) : (RP.tx o s).1.size ≤ o.1.size + 8388996 := by unfold RP.tx; rw [ad_sz]; have := tx_le s; omega
theorem dt_sz (o : ByteArray × Int) (s : ByteArray) : (RP.dt o s).1.size ≤ o.1.size + 8388996 := by unfold RP.dt; rw [ad_sz]; have := dt_le s; omega
theorem pr_sz (o : ByteArray × Int) (k : Int) (l : List Pr) : (RP.pr o k l).1.size ≤ o.1.size + 8388996 := by
  unfold RP.pr
  have := PR.putS_small l
  have z : (ByteArray.mk #[]).size = 0 := rfl
  split
  · rw [ad_sz]; omega
  · rw [ad_sz, ad_sz, z]; omega
theorem qs_sz (o : ByteArray × Int) (n : Int) : (RP.qs o n).1.size ≤ o.1.size + 8388996 := by
  unfold RP.qs
  have z : (ByteArray.mk #[]).size = 0 := rfl
  split
  · rw [ad_sz, z]; omega
  · omega
theorem idd_sz (o : ByteArray × Int) (n : Int) : (RP.idd o n).1.size ≤ o.1.size + 8388996 := by
  unfold RP.idd
  have z : (ByteArray.mk #[]).size = 0 := rfl
  split
  · rw [ad_sz, z]; omega
  · exact nm_sz _ _ _
theorem fl_le (b : Bool) (n : Int) (h : 0 ≤ n) : 0 ≤ PK.fl b n ∧ PK.fl b n ≤ n := by
  unfold PK.fl
  split <;> omega
theorem low_le (n : Int) : 0 ≤ RP.low n ∧ RP.low n ≤ 3 := by unfold RP.low; omega

set_option linter.unusedSimpArgs false in
set_option maxRecDepth 100000 in
set_option maxHeartbeats 4000000 in
theorem dflags_any (P : Pk) (h3 : P.kind = 3 → 0 ≤ P.qos ∧ P.qos ≤ 2) (vc vp vw vs vf : Value) (w : World) :
    Calls Tryz.prog 25 #[.agg (rkCells P vc vp vw vs vf)] w fun e w' => e = .returned (.int .i64 (PK.flagsN P)) ∧ Below w.heap.size w w' := by
  have k0 := heap_alloc_new w (.cells (rkCells P vc vp vw vs vf) 40)
  have x0 := (cell_heap (i := 0) k0).trans (show _ = some (.int .i64 P.kind) from rfl)
  have x1 := (cell_heap (i := 1) k0).trans (show _ = some (.bool P.dup) from rfl)
  have x2 := (cell_heap (i := 2) k0).trans (show _ = some (.bool P.ret) from rfl)
  have x3 := (cell_heap (i := 3) k0).trans (show _ = some (.int .i64 P.qos) from rfl)
  have bb := Lib.hid ((Below.refl w.heap.size w).alloc (Nat.le_refl _) (.cells (rkCells P vc vp vw vs vf) 40))
  clear k0
  unfold PK.flagsN
  by_cases k3 : P.kind = 3
  · rw [if_pos k3]
    obtain ⟨q0, q1⟩ := h3 k3
    rw [k3] at x0
    have CD : Hid (∀ W, _) := Lib.hid (fun W => dbit_any P.dup 8 W)
    have CR : Hid (∀ W, _) := Lib.hid (fun W => dbit_any P.ret 1 W)
    have b1 := fl_le P.dup 8 (by decide)
    have b2 := fl_le P.ret 1 (by decide)
    generalize PK.fl P.dup 8 = d at *
    generalize PK.fl P.ret 1 = r at *
    clear k3 h3
    go_enter Tryz.func25, Tryz.ntmps25
    go_wp2_with fail
    refine (CD.out _).mono ?_
    rintro e _ ⟨rfl, rfl⟩
    go_wp2_with fail
    refine (CR.out _).mono ?_
    rintro e _ ⟨rfl, rfl⟩
    go_wp2_with fail
    go_ret
    exact ⟨rfl, bb.out⟩
  · rw [if_neg k3]
    have n3 : (P.kind == 3) = false := by rw [beq_eq_false_iff_ne]; exact k3
    by_cases k2 : P.kind = 6 ∨ P.kind = 8 ∨ P.kind = 10
    · rw [if_pos k2]
      rcases k2 with k | k | k <;>
      · rw [k] at x0
        clear h3 k3 n3 k
        go_enter Tryz.func25, Tryz.ntmps25
        go_wp2_with fail
        go_ret
        exact ⟨rfl, bb.out⟩
    · rw [if_neg k2]
      have n6 : (P.kind == 6) = false := by rw [beq_eq_false_iff_ne]; exact fun e => k2 (.inl e)
      have n8 : (P.kind == 8) = false := by rw [beq_eq_false_iff_ne]; exact fun e => k2 (.inr (.inl e))
      have n10 : (P.kind == 10) = false := by rw [beq_eq_false_iff_ne]; exact fun e => k2 (.inr (.inr e))
      clear h3 k3 k2
      go_enter Tryz.func25, Tryz.ntmps25
      go_wp2_with fail
      go_ret
      exact ⟨rfl, bb.out⟩
end Go.Proofs.YtmldnaadjhnfcaaGreatDoor
