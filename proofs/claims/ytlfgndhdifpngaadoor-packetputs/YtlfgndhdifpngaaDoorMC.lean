/- The law's helper that makes packets: its steps. -/
import Derived.Test.YtlfgndhdifpngaaDoorMB
namespace Go.Proofs.YtlfgndhdifpngaaDoor
open Go.RowKit

section
variable {t0 : TypeId} {w : World} {C0 : Array Value} {P P' : Pk} {vc vp vw vs vf uc up uw us uf vc' vp' vw' vs' vf' uc' up' uw' us' uf' v1 v2 : Value} {W W2 : World}
/-- Two stores behind all that was made. -/
theorem PS.of (j : Nat) (h0 : W2.heap[w.heap.size]? = some (.cells C0 t0 (0, 0))) (h1 : W2.heap[w.heap.size + 1]? = some (.cells (pkNil PK.zeroPk) 38 (0, 0))) (h2 : W2.heap[w.heap.size + 2]? = some (.cells (rkNil PK.zeroPk) 45 (0, 0)))
    (h3 : W2.heap[w.heap.size + 3]? = some (.cells (pkCells P vc vp vw vs vf) 38 (0, 0))) (h4 : W2.heap[w.heap.size + 4]? = some (.cells (rkCells P uc up uw us uf) 45 (0, 0)))
    (ho : Own5 (w.heap.size + 5) P' vc' vp' vw' vs' vf' W2) (hr : Own5R (w.heap.size + 5) P' uc' up' uw' us' uf' W2) (ha : uf'.ownBlock = none ∨ uf'.ownBlock ≠ vf'.ownBlock) (hb : Below w.heap.size w W2)
    (e3 : (pkCells P vc vp vw vs vf).set! j v1 = pkCells P' vc' vp' vw' vs' vf') (e4 : (rkCells P uc up uw us uf).set! j v2 = rkCells P' uc' up' uw' us' uf') :
    PS t0 w C0 P' vc' vp' vw' vs' vf' uc' up' uw' us' uf' ((W2.setCell ⟨w.heap.size + 3, j, none⟩ v1).setCell ⟨w.heap.size + 4, j, none⟩ v2) := by
  have far : ∀ {b : Nat} {o : Obj}, b ≠ w.heap.size + 3 → b ≠ w.heap.size + 4 → W2.heap[b]? = some o → ((W2.setCell ⟨w.heap.size + 3, j, none⟩ v1).setCell ⟨w.heap.size + 4, j, none⟩ v2).heap[b]? = some o := fun n3 n4 h =>
    (Below.heap_setCell _ _ _ _ n4).trans ((Below.heap_setCell _ _ _ _ n3).trans h)
  exact ⟨far (by omega) (by omega) h0, far (by omega) (by omega) h1, far (by omega) (by omega) h2, (Below.heap_setCell _ _ _ _ (show w.heap.size + 3 ≠ w.heap.size + 4 by omega)).trans (set_block h3 e3), set_block ((Below.heap_setCell _ _ _ _ (show w.heap.size + 4 ≠ w.heap.size + 3 by omega)).trans h4) e4,
    own5_set (own5_set ho (by omega)) (by omega), (hr.set (by omega)).set (by omega), ha, below_set (below_set hb (by omega)) (by omega)⟩

theorem PS.codes (h : PS t0 w C0 P vc vp vw vs vf uc up uw us uf W) (c : Int)
    (hp : AppP (w.heap.size + 5) W 31 3 1 1 vc uc P.codes.length (flatC P.codes) (flatI P.codes) [.int .u8 c] [.int .i64 c] v1 v2 W2) :
    PS t0 w C0 { P with codes := P.codes ++ [c] } v1 vp vw vs vf v2 up uw us uf ((W2.setCell ⟨w.heap.size + 3, 8, none⟩ v1).setCell ⟨w.heap.size + 4, 8, none⟩ v2) := by
  have o := h.own; have r := h.ref
  obtain ⟨r1, r2, _⟩ := hp.rows r.codes (rows_apart r.codes o.codes (by decide))
  have K := fun {M : Nat} {e : TypeId} {k : Nat} {v : Value} {m : Nat} {zs : List Value} (ho : W.ownsRow M e k v m zs) (n1 : e ≠ 31) (n2 : e ≠ 3) => hp.keep ho (rows_apart ho o.codes n1) (rows_apart ho r.codes n2)
  have F := fun {b : Nat} {x : Obj} (hb : b < w.heap.size + 5) (hx : W.heap[b]? = some x) => hp.block hx (row_ne o.codes hb) (row_ne r.codes hb)
  refine PS.of 8 (F (by omega) h.b0) (F (by omega) h.b1) (F (by omega) h.b2) (F (by omega) h.b3) (F (by omega) h.b4) ⟨?_, K o.props (by decide) (by decide), K o.wprops (by decide) (by decide), K o.subs (by decide) (by decide), K o.filters (by decide) (by decide)⟩
    ⟨?_, K r.props (by decide) (by decide), K r.wprops (by decide) (by decide), K r.subs (by decide) (by decide), K r.filters (by decide) (by decide)⟩ h.apart (h.below.trans (hp.below o.codes r.codes (by omega) (by have := h.size; omega))) rfl rfl
  · show W2.ownsRow _ _ _ _ (P.codes ++ [c]).length (flatC (P.codes ++ [c]))
    rw [flatC_snoc, List.length_append]; exact r1
  · show W2.ownsRow _ _ _ _ (P.codes ++ [c]).length (flatI (P.codes ++ [c]))
    rw [flatI_snoc, List.length_append]; exact r2
theorem PS.subs (h : PS t0 w C0 P vc vp vw vs vf uc up uw us uf W) (s : Sb)
    (hp : AppP (w.heap.size + 5) W 58 59 5 5 vs us P.subs.length (flatB P.subs) (flatB P.subs) [.string s.f, .int .i64 s.q, .bool s.nl, .bool s.ap, .int .i64 s.h] [.string s.f, .int .i64 s.q, .bool s.nl, .bool s.ap, .int .i64 s.h] v1 v2 W2) :
    PS t0 w C0 { P with subs := P.subs ++ [s] } vc vp vw v1 vf uc up uw v2 uf ((W2.setCell ⟨w.heap.size + 3, 24, none⟩ v1).setCell ⟨w.heap.size + 4, 24, none⟩ v2) := by
  have o := h.own; have r := h.ref
  obtain ⟨r1, r2, _⟩ := hp.rows r.subs (rows_apart r.subs o.subs (by decide))
  have K := fun {M : Nat} {e : TypeId} {k : Nat} {v : Value} {m : Nat} {zs : List Value} (ho : W.ownsRow M e k v m zs) (n1 : e ≠ 58) (n2 : e ≠ 59) => hp.keep ho (rows_apart ho o.subs n1) (rows_apart ho r.subs n2)
  have F := fun {b : Nat} {x : Obj} (hb : b < w.heap.size + 5) (hx : W.heap[b]? = some x) => hp.block hx (row_ne o.subs hb) (row_ne r.subs hb)
  refine PS.of 24 (F (by omega) h.b0) (F (by omega) h.b1) (F (by omega) h.b2) (F (by omega) h.b3) (F (by omega) h.b4) ⟨K o.codes (by decide) (by decide), K o.props (by decide) (by decide), K o.wprops (by decide) (by decide), ?_, K o.filters (by decide) (by decide)⟩
    ⟨K r.codes (by decide) (by decide), K r.props (by decide) (by decide), K r.wprops (by decide) (by decide), ?_, K r.filters (by decide) (by decide)⟩ h.apart (h.below.trans (hp.below o.subs r.subs (by omega) (by have := h.size; omega))) rfl rfl
  · show W2.ownsRow _ _ _ _ (P.subs ++ [s]).length (flatB (P.subs ++ [s]))
    rw [flatB_snoc, List.length_append]; exact r1
  · show W2.ownsRow _ _ _ _ (P.subs ++ [s]).length (flatB (P.subs ++ [s]))
    rw [flatB_snoc, List.length_append]; exact r2
theorem PS.texts (h : PS t0 w C0 P vc vp vw vs vf uc up uw us uf W) (s : ByteArray)
    (hp : AppP (w.heap.size + 5) W 9 9 1 1 vf uf P.filters.length (flatT P.filters) (flatT P.filters) [.string s] [.string s] v1 v2 W2) :
    PS t0 w C0 { P with filters := P.filters ++ [s] } vc vp vw vs v1 uc up uw us v2 ((W2.setCell ⟨w.heap.size + 3, 25, none⟩ v1).setCell ⟨w.heap.size + 4, 25, none⟩ v2) := by
  have o := h.own; have r := h.ref
  obtain ⟨r1, r2, r3⟩ := hp.rows r.filters h.apart
  have K := fun {M : Nat} {e : TypeId} {k : Nat} {v : Value} {m : Nat} {zs : List Value} (ho : W.ownsRow M e k v m zs) (n1 : e ≠ 9) => hp.keep ho (rows_apart ho o.filters n1) (rows_apart ho r.filters n1)
  have F := fun {b : Nat} {x : Obj} (hb : b < w.heap.size + 5) (hx : W.heap[b]? = some x) => hp.block hx (row_ne o.filters hb) (row_ne r.filters hb)
  refine PS.of 25 (F (by omega) h.b0) (F (by omega) h.b1) (F (by omega) h.b2) (F (by omega) h.b3) (F (by omega) h.b4) ⟨K o.codes (by decide), K o.props (by decide), K o.wprops (by decide), K o.subs (by decide), ?_⟩
    ⟨K r.codes (by decide), K r.props (by decide), K r.wprops (by decide), K r.subs (by decide), ?_⟩ (.inr r3) (h.below.trans (hp.below o.filters r.filters (by omega) (by have := h.size; omega))) rfl rfl
  · show W2.ownsRow _ _ _ _ (P.filters ++ [s]).length (flatT (P.filters ++ [s]))
    rw [flatT_snoc, List.length_append]; exact r1
  · show W2.ownsRow _ _ _ _ (P.filters ++ [s]).length (flatT (P.filters ++ [s]))
    rw [flatT_snoc, List.length_append]; exact r2
theorem PS.props (h : PS t0 w C0 P vc vp vw vs vf uc up uw us uf W) {l : List Pr} (hp : Rows2 W.heap.size W2 v1 v2 l) (hb : Below W.heap.size W W2) :
    PS t0 w C0 { P with props := l } vc v1 vw vs vf uc v2 uw us uf ((W2.setCell ⟨w.heap.size + 3, 9, none⟩ v1).setCell ⟨w.heap.size + 4, 9, none⟩ v2) := by
  have n := h.next hb
  exact PS.of 9 n.b0 n.b1 n.b2 n.b3 n.b4 ⟨n.own.codes, own_base' hp.1 h.size, n.own.wprops, n.own.subs, n.own.filters⟩ ⟨n.ref.codes, own_base' hp.2 h.size, n.ref.wprops, n.ref.subs, n.ref.filters⟩ n.apart n.below rfl rfl
theorem PS.wprops (h : PS t0 w C0 P vc vp vw vs vf uc up uw us uf W) {l : List Pr} (hp : Rows2 W.heap.size W2 v1 v2 l) (hb : Below W.heap.size W W2) :
    PS t0 w C0 { P with wprops := l } vc vp v1 vs vf uc up v2 us uf ((W2.setCell ⟨w.heap.size + 3, 18, none⟩ v1).setCell ⟨w.heap.size + 4, 18, none⟩ v2) := by
  have n := h.next hb
  exact PS.of 18 n.b0 n.b1 n.b2 n.b3 n.b4 ⟨n.own.codes, n.own.props, own_base' hp.1 h.size, n.own.subs, n.own.filters⟩ ⟨n.ref.codes, n.ref.props, own_base' hp.2 h.size, n.ref.subs, n.ref.filters⟩ n.apart n.below rfl rfl
end
end Go.Proofs.YtlfgndhdifpngaaDoor
