/-
  What the statement stands on.
-/
import Derived.Test.YtcfgefbkeeedgaaGreatM03
import Derived.Deep.RegionHeld3
namespace Go.Proofs.YtcfgefbkeeedgaaGreat
open Go.RowKit
def Locs (w : World) : Nat → List (Nat × TypeId × List Value) → Prop
  | _, [] => True
  | lo, (b, t, vs) :: r => lo ≤ b ∧ w.heap[b]? = some (.cells vs.toArray t (0, 0)) ∧ Locs w (b + 1) r
def setL : List (Nat × TypeId × List Value) → Nat → Nat → Value → List (Nat × TypeId × List Value)
  | [], _, _, _ => []
  | (b, t, vs) :: r, 0, j, v => (b, t, vs.set j v) :: r
  | x :: r, i + 1, j, v => x :: setL r i j v
theorem Locs.mono {w : World} {lo lo' : Nat} (hl : lo' ≤ lo) : ∀ {L}, Locs w lo L → Locs w lo' L
  | [], _ => trivial
  | _ :: _, ⟨h1, h2, h3⟩ => ⟨Nat.le_trans hl h1, h2, h3⟩
theorem Locs.get {w : World} {b t vs} : ∀ {L lo} (i : Nat), Locs w lo L → L[i]? = some (b, t, vs) → lo ≤ b ∧ w.heap[b]? = some (.cells (List.toArray vs) t (0, 0))
  | [], _, _, _, e => by simp at e
  | _ :: _, _, 0, ⟨h1, h2, _⟩, e => by cases e; exact ⟨h1, h2⟩
  | (b0, _, _) :: r, lo, i + 1, ⟨h1, _, h3⟩, e => by
    have := Locs.get (L := r) i h3 (by simpa using e)
    exact ⟨by omega, this.2⟩
theorem lt_of_heap {w : World} {b : Nat} {o : Obj} (h : w.heap[b]? = some o) : b < w.heap.size := (Array.getElem?_eq_some_iff.1 h).1
theorem Locs.keep {w w' : World} (hk : ∀ b, b < w.heap.size → w'.heap[b]? = w.heap[b]?) : ∀ {L lo}, Locs w lo L → Locs w' lo L
  | [], _, _ => trivial
  | _ :: _, _, ⟨h1, h2, h3⟩ => ⟨h1, (hk _ (lt_of_heap h2)).trans h2, Locs.keep hk h3⟩
theorem Locs.push {w : World} {t : TypeId} {vs : List Value} : ∀ {L lo}, Locs w lo L → lo ≤ w.heap.size → Locs (w.alloc (.cells vs.toArray t)) lo (L ++ [(w.heap.size, t, vs)])
  | [], _, _, hl => ⟨hl, World.alloc_heap_new w _, trivial⟩
  | _ :: _, _, ⟨h1, h2, h3⟩, _ => ⟨h1, (Below.heap_alloc _ _ _ (lt_of_heap h2)).trans h2, Locs.push h3 (lt_of_heap h2)⟩
theorem Locs.set {w : World} {j : Nat} {v : Value} {b t vs} : ∀ {L lo} (i : Nat), Locs w lo L → L[i]? = some (b, t, vs) → Locs (w.setCell ⟨b, j, none⟩ v) lo (setL L i j v)
  | [], _, _, _, e => by simp at e
  | (b0, t0, vs0) :: r, lo, 0, ⟨h1, h2, h3⟩, e => by
    obtain ⟨rfl, rfl, rfl⟩ : b0 = b ∧ t0 = t ∧ vs0 = vs := by simpa using e
    have hlt := lt_of_heap h2
    refine ⟨h1, ?_, ?_⟩
    · unfold World.setCell
      simp only [Array.getElem?_modify, if_true, h2, Option.map_some]
      simp
    · have hk : ∀ {L lo}, b0 < lo → Locs w lo L → Locs (w.setCell ⟨b0, j, none⟩ v) lo L := by
        intro L
        induction L with
        | nil => intro _ _ _; trivial
        | cons x r ih =>
          intro lo hl ⟨a1, a2, a3⟩
          exact ⟨a1, (Below.heap_setCell _ _ _ _ (by show x.1 ≠ b0; omega)).trans a2, ih (by omega) a3⟩
      exact hk (Nat.lt_succ_self _) h3
  | (b0, t0, vs0) :: r, lo, i + 1, ⟨h1, h2, h3⟩, e => by
    have e' : r[i]? = some (b, t, vs) := by simpa using e
    have hb := (Locs.get i h3 e').1
    exact ⟨h1, (Below.heap_setCell _ _ _ _ (by show b0 ≠ b; omega)).trans h2, Locs.set i h3 e'⟩
structure Hold (w w' : World) : Prop where
  size : w.heap.size ≤ w'.heap.size
  num : ∀ a q n, w.cell? a = some (.int q n) → w'.cell? a = some (.int q n)
structure Hold32 (w w' : World) : Prop where
  size : w.heap.size ≤ w'.heap.size
  u32 : ∀ a n, w.cell? a = some (.int .u32 n) → w'.cell? a = some (.int .u32 n)
theorem Hold.refl (w : World) : Hold w w := ⟨Nat.le_refl _, fun _ _ _ h => h⟩
theorem Hold.trans {a b c : World} (h : Hold a b) (k : Hold b c) : Hold a c := ⟨Nat.le_trans h.size k.size, fun p q n e => k.num p q n (h.num p q n e)⟩
theorem Hold.of_below {w w' : World} (h : Below w.heap.size w w') : Hold w w' := ⟨h.size, fun a _ _ e => (h.cell (p := a) (World.block_lt_of_cell? w a e)).trans e⟩
theorem Hold.set {w : World} {p : Addr} {x : Value} (hx : w.cell? p = some x) (hn : ∀ q n, x ≠ .int q n) (v : Value) : Hold w (w.setCell p v) := by
  refine ⟨by simp, fun a q n e => ?_⟩
  rw [World.cell?_setCell_other]
  · exact e
  · rintro rfl
    rw [hx] at e
    exact hn _ _ (by cases e; rfl)
theorem Hold32.set {w : World} {p : Addr} {x : Value} (hx : w.cell? p = some x) (hn : ∀ n, x ≠ .int .u32 n) (v : Value) : Hold32 w (w.setCell p v) := by
  refine ⟨by simp, fun a n e => ?_⟩
  rw [World.cell?_setCell_other]
  · exact e
  · rintro rfl
    rw [hx] at e
    exact hn _ (by cases e; rfl)
theorem Hold.drew (w : World) : Hold w w.drew := Hold.of_below (Below.refl _ w).drew
theorem At.hold32 {w w' : World} {p : Option Addr} {cap : Nat} {ds : List Nat} (h : Hold32 w w') : At .u32 w p cap ds → At .u32 w' p cap ds
  | .inl a => .inl a
  | .inr ⟨b, off, e, h1, h2, h3⟩ => .inr ⟨b, off, e, h1, Nat.lt_of_lt_of_le h2 h.size, fun j hj => h.u32 _ _ (h3 j hj)⟩
theorem At.hold {q : IntKind} {w w' : World} {p : Option Addr} {cap : Nat} {ds : List Nat} (h : Hold w w') : At q w p cap ds → At q w' p cap ds
  | .inl a => .inl a
  | .inr ⟨b, off, e, h1, h2, h3⟩ => .inr ⟨b, off, e, h1, Nat.lt_of_lt_of_le h2 h.size, fun j hj => h.num _ _ _ (h3 j hj)⟩
theorem Nums.hold {q : IntKind} {w w' : World} {v : Value} {ds : List Nat} (h : Hold w w') : Nums q w v ds → Nums q w' v ds
  | ⟨p, K, e, a⟩ => ⟨p, K, e, a.hold h⟩
theorem IsNat.hold32 {w w' : World} {v : Value} {n : Nat} (h : Hold32 w w') : IsNat w v n → IsNat w' v n
  | ⟨ds, ⟨p, K, e, a⟩, c⟩ => ⟨ds, ⟨p, K, e, a.hold32 h⟩, c⟩
theorem IsNat.hold {w w' : World} {v : Value} {n : Nat} (h : Hold w w') : IsNat w v n → IsNat w' v n
  | ⟨ds, ⟨p, K, e, a⟩, c⟩ => ⟨ds, ⟨p, K, e, a.hold h⟩, c⟩
structure St (w W : World) (L : List (Nat × TypeId × List Value)) : Prop where
  below : Below w.heap.size w W
  locs : Locs W w.heap.size L
theorem St.hold {w W : World} {L} (S : St w W L) : Hold w W := Hold.of_below S.below
theorem St.start (w : World) : St w w [] := ⟨Below.refl _ w, trivial⟩
theorem St.alloc {w W : World} {L} (S : St w W L) (t : TypeId) (vs : List Value) (b : Nat) (hb : W.heap.size = b := by simp) : St w (W.alloc (.cells vs.toArray t)) (L ++ [(b, t, vs)]) := by
  subst hb
  exact ⟨S.below.alloc S.below.size _, S.locs.push S.below.size⟩
theorem St.set {w W : World} {L} (S : St w W L) (i j : Nat) (v : Value) {b t vs} (hi : L[i]? = some (b, t, vs)) : St w (W.setCell ⟨b, j, none⟩ v) (setL L i j v) :=
  ⟨S.below.setCell (p := ⟨b, j, none⟩) (S.locs.get i hi).1 v, S.locs.set i hi⟩
theorem St.drew {w W : World} {L} (S : St w W L) : St w W.drew L := ⟨S.below.drew, Locs.keep (w := W) (w' := W.drew) (fun _ _ => rfl) S.locs⟩
theorem St.c {w W : World} {L} (S : St w W L) (i j : Nat) {b t vs v} (hi : L[i]? = some (b, t, vs)) (hj : vs[j]? = some v) : W.cell? ⟨b, j, none⟩ = some v := by
  rw [cell_of_row W b j _ t (0, 0) (S.locs.get i hi).2]
  simpa using hj
theorem St.f {w W : World} {L} (S : St w W L) (i j : Nat) {b t vs} (hi : L[i]? = some (b, t, vs)) : W.frozen? ⟨b, j, none⟩ = false := by
  have h' := (S.locs.get i hi).2
  simp [World.frozen?, h']
theorem St.lt {w W : World} {L} (S : St w W L) (i : Nat) {b t vs} (hi : L[i]? = some (b, t, vs)) : b < W.heap.size := lt_of_heap (S.locs.get i hi).2
theorem St.to {w W W' : World} {L} (S : St w W L) (hB : Below W.heap.size W W') : St w W' L := ⟨S.below.trans (hB.mono S.below.size), S.locs.keep fun b hb => hB.block b hb⟩
theorem St.call {w W : World} {L} {P : Program} {f : FuncId} {args : Array Value} {R : Ending → World → Prop} (S : St w W L) (hc : Calls P f args W fun e w' => R e w' ∧ Below W.heap.size W w') :
    Calls P f args W fun e w' => R e w' ∧ St w w' L ∧ Hold W w' := hc.mono fun _ _ h => ⟨h.1, S.to h.2, Hold.of_below h.2⟩
theorem St.hnew {w W : World} {L} (_ : St w W L) (t : TypeId) (vs : List Value) : Hold W (W.alloc (.cells vs.toArray t)) := Hold.of_below ((Below.refl _ W).alloc (Nat.le_refl _) _)
theorem Locs.take {w : World} : ∀ {L M lo}, Locs w lo (L ++ M) → Locs w lo L
  | [], _, _, _ => trivial
  | _ :: _, _, _, ⟨h1, h2, h3⟩ => ⟨h1, h2, Locs.take h3⟩
theorem St.take {w W : World} {M} (S : St w W M) (k : Nat) {L} (h : M.take k = L) : St w W L := ⟨S.below, by subst h; exact Locs.take (M := M.drop k) (by rw [List.take_append_drop]; exact S.locs)⟩
theorem St.hset {w W : World} {L} (S : St w W L) (i j : Nat) (v : Value) {b t vs x} (hi : L[i]? = some (b, t, vs)) (hj : vs[j]? = some x) (hn : ∀ q n, x ≠ .int q n) : Hold W (W.setCell ⟨b, j, none⟩ v) := Hold.set (S.c i j hi hj) hn v
def noNum : Value → Bool
  | .int _ _ => false
  | _ => true
theorem noNum_is {x : Value} (h : noNum x = true) (q : IntKind) (n : Int) : x ≠ .int q n := fun e => by rw [e] at h; cases h
theorem Hold32.trans {a b c : World} (h : Hold32 a b) (k : Hold32 b c) : Hold32 a c := ⟨Nat.le_trans h.size k.size, fun p n e => k.u32 p n (h.u32 p n e)⟩
theorem St.c3 {w W : World} {L} (S : St w W L) (i : Nat) {b t x0 x1 x2 r} (hi : L[i]? = some (b, t, x0 :: x1 :: x2 :: r)) : W.cell? ⟨b, 0, none⟩ = some x0 ∧ W.cell? ⟨b, 1, none⟩ = some x1 ∧ W.cell? ⟨b, 2, none⟩ = some x2 := ⟨S.c i 0 hi rfl, S.c i 1 hi rfl, S.c i 2 hi rfl⟩
theorem St.c6 {w W : World} {L} (S : St w W L) (i : Nat) {b t x0 x1 x2 x3 x4 x5 r} (hi : L[i]? = some (b, t, x0 :: x1 :: x2 :: x3 :: x4 :: x5 :: r)) : W.cell? ⟨b, 0, none⟩ = some x0 ∧ W.cell? ⟨b, 1, none⟩ = some x1 ∧ W.cell? ⟨b, 2, none⟩ = some x2 ∧ W.cell? ⟨b, 3, none⟩ = some x3 ∧ W.cell? ⟨b, 4, none⟩ = some x4 ∧ W.cell? ⟨b, 5, none⟩ = some x5 := ⟨S.c i 0 hi rfl, S.c i 1 hi rfl, S.c i 2 hi rfl, S.c i 3 hi rfl, S.c i 4 hi rfl, S.c i 5 hi rfl⟩
theorem setL_at {j : Nat} {v : Value} {b : Nat} {t : TypeId} {vs : List Value} : ∀ {L : List (Nat × TypeId × List Value)} {i : Nat}, L[i]? = some (b, t, vs) → (setL L i j v)[i]? = some (b, t, vs.set j v)
  | [], _, h => by simp at h
  | (b0, t0, vs0) :: r, 0, h => by
    obtain ⟨rfl, rfl, rfl⟩ : b0 = b ∧ t0 = t ∧ vs0 = vs := by simpa using h
    rfl
  | x :: r, i + 1, h => by
    have h' : r[i]? = some (b, t, vs) := by simpa using h
    have := setL_at (j := j) (v := v) h'
    simpa [setL] using this
theorem St.f3 {w W : World} {L} (S : St w W L) (i : Nat) {b t vs} (hi : L[i]? = some (b, t, vs)) : W.frozen? ⟨b, 0, none⟩ = false ∧ W.frozen? ⟨b, 1, none⟩ = false ∧ W.frozen? ⟨b, 2, none⟩ = false := ⟨S.f i 0 hi, S.f i 1 hi, S.f i 2 hi⟩
theorem St.f6 {w W : World} {L} (S : St w W L) (i : Nat) {b t vs} (hi : L[i]? = some (b, t, vs)) : W.frozen? ⟨b, 0, none⟩ = false ∧ W.frozen? ⟨b, 1, none⟩ = false ∧ W.frozen? ⟨b, 2, none⟩ = false ∧ W.frozen? ⟨b, 3, none⟩ = false ∧ W.frozen? ⟨b, 4, none⟩ = false ∧ W.frozen? ⟨b, 5, none⟩ = false := ⟨S.f i 0 hi, S.f i 1 hi, S.f i 2 hi, S.f i 3 hi, S.f i 4 hi, S.f i 5 hi⟩
theorem St.putq {w W : World} {L} (S : St w W L) (i : Nat) (v0 v1 v2 : Value) {b t x0 x1 x2} (hi : L[i]? = some (b, t, [x0, x1, x2])) (hn : ([x0, x1, x2].all noNum) = true) : St w (((W.setCell ⟨b, 0, none⟩ v0).setCell ⟨b, 1, none⟩ v1).setCell ⟨b, 2, none⟩ v2) (setL (setL (setL L i 0 v0) i 1 v1) i 2 v2) ∧ Hold W (((W.setCell ⟨b, 0, none⟩ v0).setCell ⟨b, 1, none⟩ v1).setCell ⟨b, 2, none⟩ v2) := by
  simp only [List.all_cons, List.all_nil, Bool.and_true, Bool.and_eq_true] at hn
  have h0 : L[i]? = some (b, t, [x0, x1, x2]) := by exact hi
  have S1 := S.set i 0 v0 h0
  have H1 := Hold.set (S.c i 0 h0 rfl) (noNum_is hn.1) v0
  have h1 : (setL L i 0 v0)[i]? = some (b, t, [v0, x1, x2]) := by rw [setL_at h0]; rfl
  have S2 := S1.set i 1 v1 h1
  have H2 := Hold.set (S1.c i 1 h1 rfl) (noNum_is hn.2.1) v1
  have h2 : (setL (setL L i 0 v0) i 1 v1)[i]? = some (b, t, [v0, v1, x2]) := by rw [setL_at h1]; rfl
  have S3 := S2.set i 2 v2 h2
  have H3 := Hold.set (S2.c i 2 h2 rfl) (noNum_is hn.2.2) v2
  exact ⟨S3, (H1.trans H2).trans H3⟩
theorem opOf {l : List Oper} {i : Nat} {o : Oper} (h : l[i]? = some o) : l.toArray[i]? = some o := (List.getElem?_toArray ..).trans h
theorem takeOp {P : Program} {ops : Array Oper} {Q : Exit → Act → World → Prop} {S : World → Prop} {md : Region.Mode} {i : Nat} {oi : Oper} {v : Value} {fuel : Nat} {listed : Array Bool} {a : Act} {w : World} (hi : ops[i]? = some oi)
    (hc : (Region.noSelect ops && Region.free md ops listed i && (Region.ready md ops listed).contains i) = true) (hQ : ∀ c a w, Q (.panic c) (a.put oi.dst v) w → Q (.panic c) a w) (hw : Region.wanted oi (yielded ops a.tmps) = true)
    (hy : ∀ W, S W → (execOp a.eval oi).run P W = .ok (.value v) W) (hS : S w) (h : wpAnyH P md ops Q S fuel (listed.setIfInBounds i true) (a.put oi.dst v) w) : wpAnyH P md ops Q S (fuel + 1) listed a w := by
  simp only [Bool.and_eq_true] at hc
  exact wpAnyH_take hi hc.1.1 hc.1.2 hc.2 hQ (.inl ⟨hw, hy⟩) hS h
theorem rdyOp {P : Program} {ops : Array Oper} {Q : Exit → Act → World → Prop} {S : World → Prop} {md : Region.Mode} {i : Nat} {o : Oper} {fuel : Nat} {listed : Array Bool} {a : Act} {w : World} (hr : Region.ready md ops listed = [i]) (ho : ops[i]? = some o)
    (h : ∀ K' : Act → World → Prop, Shut (∀ a w, S w → (S w → wpAnyH P md ops Q S fuel (listed.setIfInBounds i true) a w) → K' a w) → if Region.wanted o (yielded ops a.tmps) = true then Oper.wp P o a w K' Q else K' (a.put o.dst undef) w) : wpAnyH P md ops Q S (fuel + 1) listed a w :=
  wpAnyH_ready hr (by simp) (AllReadyH.cons ho h AllReadyH.nil)
class Hd (w w' : World) (p : Prop) (q : outParam Prop) : Prop where
  to : Hold w w' → p → q
class He (w w' : World) (p : Prop) (q : outParam Prop) : Prop where
  to : Hold32 w w' → p → q
instance hdI1 {w w' : World} {v : Value} {n : Nat} : Hd w w' (IsNat w v n) (IsNat w' v n) := ⟨IsNat.hold⟩
instance hdI2 {w w' : World} {v : Value} {n : Nat} : He w w' (IsNat w v n) (IsNat w' v n) := ⟨IsNat.hold32⟩
instance hdI3 {q : IntKind} {w w' : World} {v : Value} {ds : List Nat} : Hd w w' (Nums q w v ds) (Nums q w' v ds) := ⟨Nums.hold⟩
instance hdI4 {q : IntKind} {w w' : World} {p : Option Addr} {cap : Nat} {ds : List Nat} : Hd w w' (At q w p cap ds) (At q w' p cap ds) := ⟨At.hold⟩
instance hdI5 {w w' : World} {p : Option Addr} {cap : Nat} {ds : List Nat} : He w w' (At .u32 w p cap ds) (At .u32 w' p cap ds) := ⟨At.hold32⟩
instance hdI6 {v w w' : World} : Hd w w' (Hold v w) (Hold v w') := ⟨fun h k => k.trans h⟩
instance hdI7 {v w w' : World} : He w w' (Hold32 v w) (Hold32 v w') := ⟨fun h k => k.trans h⟩
theorem iv2 {w w' : World} {p1 q1 p2 q2 G : Prop} [Hd w w' p1 q1] [Hd w w' p2 q2] (H : Hold w w') (a1 : p1) (a2 : p2) (k : q1 → q2 → G) : G := k (Hd.to H a1) (Hd.to H a2)
theorem iv3 {w w' : World} {p1 q1 p2 q2 p3 q3 G : Prop} [Hd w w' p1 q1] [Hd w w' p2 q2] [Hd w w' p3 q3] (H : Hold w w') (a1 : p1) (a2 : p2) (a3 : p3) (k : q1 → q2 → q3 → G) : G := k (Hd.to H a1) (Hd.to H a2) (Hd.to H a3)
theorem iv4 {w w' : World} {p1 q1 p2 q2 p3 q3 p4 q4 G : Prop} [Hd w w' p1 q1] [Hd w w' p2 q2] [Hd w w' p3 q3] [Hd w w' p4 q4] (H : Hold w w') (a1 : p1) (a2 : p2) (a3 : p3) (a4 : p4) (k : q1 → q2 → q3 → q4 → G) : G := k (Hd.to H a1) (Hd.to H a2) (Hd.to H a3) (Hd.to H a4)
theorem iv5 {w w' : World} {p1 q1 p2 q2 p3 q3 p4 q4 p5 q5 G : Prop} [Hd w w' p1 q1] [Hd w w' p2 q2] [Hd w w' p3 q3] [Hd w w' p4 q4] [Hd w w' p5 q5] (H : Hold w w') (a1 : p1) (a2 : p2) (a3 : p3) (a4 : p4) (a5 : p5) (k : q1 → q2 → q3 → q4 → q5 → G) : G := k (Hd.to H a1) (Hd.to H a2) (Hd.to H a3) (Hd.to H a4) (Hd.to H a5)
theorem iv6 {w w' : World} {p1 q1 p2 q2 p3 q3 p4 q4 p5 q5 p6 q6 G : Prop} [Hd w w' p1 q1] [Hd w w' p2 q2] [Hd w w' p3 q3] [Hd w w' p4 q4] [Hd w w' p5 q5] [Hd w w' p6 q6] (H : Hold w w') (a1 : p1) (a2 : p2) (a3 : p3) (a4 : p4) (a5 : p5) (a6 : p6) (k : q1 → q2 → q3 → q4 → q5 → q6 → G) : G := k (Hd.to H a1) (Hd.to H a2) (Hd.to H a3) (Hd.to H a4) (Hd.to H a5) (Hd.to H a6)
theorem iv7 {w w' : World} {p1 q1 p2 q2 p3 q3 p4 q4 p5 q5 p6 q6 p7 q7 G : Prop} [Hd w w' p1 q1] [Hd w w' p2 q2] [Hd w w' p3 q3] [Hd w w' p4 q4] [Hd w w' p5 q5] [Hd w w' p6 q6] [Hd w w' p7 q7] (H : Hold w w') (a1 : p1) (a2 : p2) (a3 : p3) (a4 : p4) (a5 : p5) (a6 : p6) (a7 : p7) (k : q1 → q2 → q3 → q4 → q5 → q6 → q7 → G) : G := k (Hd.to H a1) (Hd.to H a2) (Hd.to H a3) (Hd.to H a4) (Hd.to H a5) (Hd.to H a6) (Hd.to H a7)
theorem iv8 {w w' : World} {p1 q1 p2 q2 p3 q3 p4 q4 p5 q5 p6 q6 p7 q7 p8 q8 G : Prop} [Hd w w' p1 q1] [Hd w w' p2 q2] [Hd w w' p3 q3] [Hd w w' p4 q4] [Hd w w' p5 q5] [Hd w w' p6 q6] [Hd w w' p7 q7] [Hd w w' p8 q8] (H : Hold w w') (a1 : p1) (a2 : p2) (a3 : p3) (a4 : p4) (a5 : p5) (a6 : p6) (a7 : p7) (a8 : p8) (k : q1 → q2 → q3 → q4 → q5 → q6 → q7 → q8 → G) : G := k (Hd.to H a1) (Hd.to H a2) (Hd.to H a3) (Hd.to H a4) (Hd.to H a5) (Hd.to H a6) (Hd.to H a7) (Hd.to H a8)
theorem tk {P : Program} {ops : Array Oper} {Q : Exit → Act → World → Prop} {S : World → Prop} {md : Region.Mode} {oi : Oper} {v : Value} {fuel : Nat} {listed l' : Array Bool} {a a' : Act} {w : World} (i : Nat) (hS : S w) (k : wpAnyH P md ops Q S fuel l' a' w) (hi : ops[i]? = some oi := by exact opOf rfl)
    (hc : (Region.noSelect ops && Region.free md ops listed i && (Region.ready md ops listed).contains i) = true := by kernel_rfl) (hQ : ∀ c a w, Q (.panic c) (a.put oi.dst v) w → Q (.panic c) a w := by exact fun _ _ _ h => h)
    (hw : Region.wanted oi (yielded ops a.tmps) = true := by rfl) (hy : ∀ W, S W → (execOp a.eval oi).run P W = .ok (.value v) W := by intro W hW; go_simp; try first | rfl | kernel_rfl)
    (hl : listed.setIfInBounds i true = l' := by first | (simp only [List.setIfInBounds_toArray, List.set_cons_zero, List.set_cons_succ]; done) | (simp only [List.setIfInBounds_toArray, List.set_cons_zero, List.set_cons_succ]; rfl) | rfl) (ha : a.put oi.dst v = a' := by first | (simp only [Act.put, List.setIfInBounds_toArray, List.set_cons_zero, List.set_cons_succ]; done) | (simp only [Act.put, List.setIfInBounds_toArray, List.set_cons_zero, List.set_cons_succ]; rfl) | rfl) :
    wpAnyH P md ops Q S (fuel + 1) listed a w := by subst hl ha; exact takeOp hi hc hQ hw hy hS k
theorem tkl {P : Program} {ops : Array Oper} {Q : Exit → Act → World → Prop} {S : World → Prop} {md : Region.Mode} {oi : Oper} {v : Value} {fuel : Nat} {listed l' : Array Bool} {a a' : Act} {w : World} (i : Nat) (hS : S w) (k : wpAnyH P md ops Q S fuel l' a' w) (hi : ops[i]? = some oi := by exact opOf rfl)
    (hc : (Region.noSelect ops && Region.free md ops listed i && (Region.ready md ops listed).contains i) = true := by kernel_rfl) (hQ : ∀ c a w, Q (.panic c) (a.put oi.dst v) w → Q (.panic c) a w := by exact fun _ _ _ h => h)
    (hw : Region.wanted oi (yielded ops a.tmps) = true := by rfl) (hy : ∀ W, S W → (execOp a.eval oi).run P W = .ok (.value v) W := by intro W hW; go_simp; try first | rfl | (rw [if_neg (by first | omega | (simp only [ByteArray.size_append]; first | omega | (have h1 : (ByteArray.mk #[47]).size = 1 := rfl; omega)))]; try rfl) | kernel_rfl)
    (hl : listed.setIfInBounds i true = l' := by first | (simp only [List.setIfInBounds_toArray, List.set_cons_zero, List.set_cons_succ]; done) | (simp only [List.setIfInBounds_toArray, List.set_cons_zero, List.set_cons_succ]; rfl) | rfl) (ha : a.put oi.dst v = a' := by first | (simp only [Act.put, List.setIfInBounds_toArray, List.set_cons_zero, List.set_cons_succ]; done) | (simp only [Act.put, List.setIfInBounds_toArray, List.set_cons_zero, List.set_cons_succ]; rfl) | rfl) :
    wpAnyH P md ops Q S (fuel + 1) listed a w := by subst hl ha; exact takeOp hi hc hQ hw hy hS k
theorem rd {P : Program} {ops : Array Oper} {Q : Exit → Act → World → Prop} {S : World → Prop} {md : Region.Mode} {o : Oper} {fuel : Nat} {listed : Array Bool} {a : Act} {w : World} (i : Nat)
    (h : ∀ K' : Act → World → Prop, Shut (∀ a w, S w → (S w → wpAnyH P md ops Q S fuel (listed.setIfInBounds i true) a w) → K' a w) → if Region.wanted o (yielded ops a.tmps) = true then Oper.wp P o a w K' Q else K' (a.put o.dst undef) w)
    (hr : Region.ready md ops listed = [i] := by kernel_rfl) (ho : ops[i]? = some o := by exact opOf rfl) : wpAnyH P md ops Q S (fuel + 1) listed a w := rdyOp hr ho h
theorem ho {P : Program} {ops : Array Oper} {Q : Exit → Act → World → Prop} {S : World → Prop} {md : Region.Mode} {fuel : Nat} {listed l' : Array Bool} {a a' : Act} {w : World} {K : Act → World → Prop} (hK : Shut (∀ a w, S w → (S w → wpAnyH P md ops Q S fuel listed a w) → K a w)) (hS : S w) (k : S w → wpAnyH P md ops Q S fuel l' a' w)
    (hl : listed = l' := by first | (simp only [List.setIfInBounds_toArray, List.set_cons_zero, List.set_cons_succ]; done) | (simp only [List.setIfInBounds_toArray, List.set_cons_zero, List.set_cons_succ]; rfl) | rfl) (ha : a = a' := by first | (simp only [Act.put, List.setIfInBounds_toArray, List.set_cons_zero, List.set_cons_succ]; done) | (simp only [Act.put, List.setIfInBounds_toArray, List.set_cons_zero, List.set_cons_succ]; rfl) | rfl) : K a w := by subst hl ha; exact hK.out _ _ hS k
theorem St.al {w W : World} {L L' : List (Nat × TypeId × List Value)} (S : St w W L) (t : TypeId) (vs : List Value) (b : Nat) (hb : W.heap.size = b := by simp) (hL : L ++ [(b, t, vs)] = L' := by first | (simp only [List.cons_append, List.nil_append]; rfl) | rfl) : St w (W.alloc (.cells vs.toArray t)) L' := hL ▸ S.alloc t vs b hb
theorem St.c2 {w W : World} {L} (S : St w W L) (i : Nat) {b t x0 x1 r} (hi : L[i]? = some (b, t, x0 :: x1 :: r)) : W.cell? ⟨b, 0, none⟩ = some x0 ∧ W.cell? ⟨b, 1, none⟩ = some x1 := ⟨S.c i 0 hi rfl, S.c i 1 hi rfl⟩
theorem St.c4 {w W : World} {L} (S : St w W L) (i : Nat) {b t x0 x1 x2 x3 r} (hi : L[i]? = some (b, t, x0 :: x1 :: x2 :: x3 :: r)) : W.cell? ⟨b, 0, none⟩ = some x0 ∧ W.cell? ⟨b, 1, none⟩ = some x1 ∧ W.cell? ⟨b, 2, none⟩ = some x2 ∧ W.cell? ⟨b, 3, none⟩ = some x3 := ⟨S.c i 0 hi rfl, S.c i 1 hi rfl, S.c i 2 hi rfl, S.c i 3 hi rfl⟩
theorem St.c5 {w W : World} {L} (S : St w W L) (i : Nat) {b t x0 x1 x2 x3 x4 r} (hi : L[i]? = some (b, t, x0 :: x1 :: x2 :: x3 :: x4 :: r)) : W.cell? ⟨b, 0, none⟩ = some x0 ∧ W.cell? ⟨b, 1, none⟩ = some x1 ∧ W.cell? ⟨b, 2, none⟩ = some x2 ∧ W.cell? ⟨b, 3, none⟩ = some x3 ∧ W.cell? ⟨b, 4, none⟩ = some x4 := ⟨S.c i 0 hi rfl, S.c i 1 hi rfl, S.c i 2 hi rfl, S.c i 3 hi rfl, S.c i 4 hi rfl⟩
def RatV (w : World) (v0 v1 v2 : Value) (q : Rat) : Prop := ∃ b p l K p' l' K', v0 = .bool b ∧ v1 = .slice p l K ∧ v2 = .slice p' l' K' ∧ Hid (decide (q.num < 0) = b) ∧ IsNat w (.slice p l K) q.num.natAbs ∧ IsNat w (.slice p' l' K') q.den
theorem RatV.hold {w w' : World} {v0 v1 v2 : Value} {q : Rat} (h : Hold w w') : RatV w v0 v1 v2 q → RatV w' v0 v1 v2 q
  | ⟨b, p, l, K, p', l', K', e0, e1, e2, hb, n, d⟩ => ⟨b, p, l, K, p', l', K', e0, e1, e2, hb, n.hold h, d.hold h⟩
theorem RatV.hold32 {w w' : World} {v0 v1 v2 : Value} {q : Rat} (h : Hold32 w w') : RatV w v0 v1 v2 q → RatV w' v0 v1 v2 q
  | ⟨b, p, l, K, p', l', K', e0, e1, e2, hb, n, d⟩ => ⟨b, p, l, K, p', l', K', e0, e1, e2, hb, n.hold32 h, d.hold32 h⟩
def RL (w : World) : List Value → List Rat → Prop
  | [], [] => True
  | v0 :: v1 :: v2 :: vs, q :: qs => RatV w v0 v1 v2 q ∧ RL w vs qs
  | _, _ => False
theorem RL.len {w : World} : ∀ {vs : List Value} {qs : List Rat}, RL w vs qs → vs.length = qs.length * 3
  | [], [], _ => rfl
  | _ :: _ :: _ :: vs, _ :: qs, ⟨_, h⟩ => by simp [RL.len h]; omega
theorem RL.hold {w w' : World} (H : Hold w w') : ∀ {vs : List Value} {qs : List Rat}, RL w vs qs → RL w' vs qs
  | [], [], _ => trivial
  | _ :: _ :: _ :: _, _ :: _, ⟨h1, h2⟩ => ⟨h1.hold H, RL.hold H h2⟩
theorem RL.hold32 {w w' : World} (H : Hold32 w w') : ∀ {vs : List Value} {qs : List Rat}, RL w vs qs → RL w' vs qs
  | [], [], _ => trivial
  | _ :: _ :: _ :: _, _ :: _, ⟨h1, h2⟩ => ⟨h1.hold32 H, RL.hold32 H h2⟩
instance hdI20 {w w' : World} {vs : List Value} {qs : List Rat} : Hd w w' (RL w vs qs) (RL w' vs qs) := ⟨fun h => RL.hold h⟩
instance hdI21 {w w' : World} {vs : List Value} {qs : List Rat} : He w w' (RL w vs qs) (RL w' vs qs) := ⟨fun h => RL.hold32 h⟩
theorem RL.app {w : World} : ∀ {vs : List Value} {qs : List Rat} {us : List Value} {rs : List Rat}, RL w vs qs → RL w us rs → RL w (vs ++ us) (qs ++ rs)
  | [], [], _, _, _, h => h
  | _ :: _ :: _ :: _, _ :: _, _, _, ⟨h1, h2⟩, h => ⟨h1, RL.app h2 h⟩
theorem RL.get {w : World} : ∀ {vs : List Value} {qs : List Rat} {j : Nat} {q : Rat}, RL w vs qs → qs[j]? = some q → ∃ v0 v1 v2, vs[j * 3]? = some v0 ∧ vs[j * 3 + 1]? = some v1 ∧ vs[j * 3 + 2]? = some v2 ∧ RatV w v0 v1 v2 q
  | [], [], _, _, _, h => by simp at h
  | v0 :: v1 :: v2 :: vs, r :: qs, 0, q, ⟨h1, _⟩, h => by cases h; exact ⟨v0, v1, v2, rfl, rfl, rfl, h1⟩
  | _ :: _ :: _ :: vs, _ :: qs, j + 1, q, ⟨_, h2⟩, h => by
    obtain ⟨v0, v1, v2, e0, e1, e2, hr⟩ := RL.get (j := j) h2 (by simpa using h)
    refine ⟨v0, v1, v2, ?_, ?_, ?_, hr⟩
    · rw [show (j + 1) * 3 = j * 3 + 1 + 1 + 1 by omega]; simpa using e0
    · rw [show (j + 1) * 3 + 1 = j * 3 + 1 + 1 + 1 + 1 by omega]; simpa using e1
    · rw [show (j + 1) * 3 + 2 = j * 3 + 2 + 1 + 1 + 1 by omega]; simpa using e2
theorem set_three (a r : List Value) (x0 x1 x2 v0 v1 v2 : Value) (j : Nat) (hj : a.length = j) : (((a ++ x0 :: x1 :: x2 :: r).set j v0).set (j + 1) v1).set (j + 2) v2 = a ++ v0 :: v1 :: v2 :: r := by
  subst hj
  rw [List.set_append_right _ _ (by omega), Nat.sub_self]
  rw [List.set_append_right _ _ (by omega), show a.length + 1 - a.length = 1 by omega]
  rw [List.set_append_right _ _ (by omega), show a.length + 2 - a.length = 2 by omega]; rfl
def ArrAt (w : World) (g off : Nat) (vs : List Value) : Prop := ∀ (j : Nat) x, vs[j]? = some x → w.cell? ⟨g, off + j, none⟩ = some x
theorem ArrAt.to {w w' : World} {g off : Nat} {vs : List Value} (h : ArrAt w g off vs) (hg : g < w.heap.size) (hB : Below w.heap.size w w') : ArrAt w' g off vs := fun j x e => (hB.cell (p := ⟨g, off + j, none⟩) hg).trans (h j x e)
theorem ArrAt.of_heap {w : World} {g : Nat} {t : TypeId} {vs : List Value} (h : w.heap[g]? = some (.cells vs.toArray t (0, 0))) : ArrAt w g 0 vs := fun j x e => by
  rw [Nat.zero_add, cell_of_row w g j _ t (0, 0) h]
  simpa using e
def Rats (w : World) (v : Value) (qs : List Rat) : Prop := ∃ p c, v = .slice p qs.length c ∧ (p = none → c = 0) ∧ qs.length ≤ c ∧ ∀ (j : Nat) q, qs[j]? = some q → ∃ g off v0 v1 v2, p = some ⟨g, off, none⟩ ∧ g < w.heap.size ∧ w.cell? ⟨g, off + j * 3, none⟩ = some v0 ∧ w.cell? ⟨g, off + j * 3 + 1, none⟩ = some v1 ∧ w.cell? ⟨g, off + j * 3 + 2, none⟩ = some v2 ∧ RatV w v0 v1 v2 q
theorem Rats.to {w w' : World} {v : Value} {qs : List Rat} (h : Rats w v qs) (hB : Below w.heap.size w w') : Rats w' v qs := by
  obtain ⟨p, c, e, h1, h2, h3⟩ := h
  refine ⟨p, c, e, h1, h2, fun j q hq => ?_⟩
  obtain ⟨g, off, v0, v1, v2, hp, hg, a0, a1, a2, hr⟩ := h3 j q hq
  exact ⟨g, off, v0, v1, v2, hp, Nat.lt_of_lt_of_le hg hB.size, (hB.cell (p := ⟨g, off + j * 3, none⟩) hg).trans a0, (hB.cell (p := ⟨g, off + j * 3 + 1, none⟩) hg).trans a1, (hB.cell (p := ⟨g, off + j * 3 + 2, none⟩) hg).trans a2, hr.hold (Hold.of_below hB)⟩
theorem Rats.form {w : World} {v : Value} {qs : List Rat} (h : Rats w v qs) : ∃ p c, v = .slice p qs.length c := by
  obtain ⟨p, c, e, _⟩ := h
  exact ⟨p, c, e⟩
theorem Rats.get {w : World} {p : Option Addr} {n c : Nat} {qs : List Rat} (h : Rats w (.slice p n c) qs) {j : Nat} (hj : j < n) : ∃ g off q v0 v1 v2, p = some ⟨g, off, none⟩ ∧ g < w.heap.size ∧ qs[j]? = some q ∧ w.cell? ⟨g, off + j * 3, none⟩ = some v0 ∧ w.cell? ⟨g, off + j * 3 + 1, none⟩ = some v1 ∧ w.cell? ⟨g, off + j * 3 + 2, none⟩ = some v2 ∧ RatV w v0 v1 v2 q := by
  obtain ⟨p', c', e, _, _, h3⟩ := h
  cases e
  have hq : qs[j]? = some (qs[j]'hj) := List.getElem?_eq_getElem _
  obtain ⟨g, off, v0, v1, v2, hp, hg, a0, a1, a2, hr⟩ := h3 j _ hq
  exact ⟨g, off, _, v0, v1, v2, hp, hg, hq, a0, a1, a2, hr⟩
theorem Rats.row {w : World} {g off c : Nat} {vs : List Value} {qs : List Rat} (hg : g < w.heap.size) (hc : qs.length ≤ c) (ha : ArrAt w g off vs) (hr : RL w vs qs) : Rats w (.slice (some ⟨g, off, none⟩) qs.length c) qs := by
  refine ⟨_, c, rfl, fun h => (by cases h), hc, fun j q hq => ?_⟩
  obtain ⟨v0, v1, v2, e0, e1, e2, hv⟩ := hr.get hq
  exact ⟨g, off, v0, v1, v2, rfl, hg, ha _ _ e0, ha _ _ e1, ha _ _ e2, hv⟩
theorem Locs.adopt {w : World} {g : Nat} {t : TypeId} {vs : List Value} : ∀ {L lo}, Locs w lo L → lo ≤ g → (∀ x, x ∈ L → x.1 < g) → w.heap[g]? = some (.cells vs.toArray t (0, 0)) → Locs w lo (L ++ [(g, t, vs)])
  | [], _, _, hl, _, hg => ⟨hl, hg, trivial⟩
  | (b, _, _) :: _, _, ⟨h1, h2, h3⟩, _, hx, hg => ⟨h1, h2, Locs.adopt h3 (hx (b, _, _) (List.mem_cons_self ..)) (fun x hm => hx x (List.mem_cons_of_mem _ hm)) hg⟩
theorem Locs.inside {w : World} : ∀ {L : List (Nat × TypeId × List Value)} {lo : Nat}, Locs w lo L → ∀ x, x ∈ L → x.1 < w.heap.size
  | [], _, _, _, hx => by simp at hx
  | (_, _, _) :: _, _, ⟨_, h2, h3⟩, x, hx => by
    rcases List.mem_cons.1 hx with rfl | hx
    · exact lt_of_heap h2
    · exact Locs.inside h3 x hx
theorem St.adopt {w W W' : World} {L : List (Nat × TypeId × List Value)} (S : St w W L) (hB : Below W.heap.size W W') {g : Nat} {t : TypeId} {vs : List Value} (hg : W.heap.size ≤ g) (h : W'.heap[g]? = some (.cells vs.toArray t (0, 0))) : St w W' (L ++ [(g, t, vs)]) :=
  ⟨(S.to hB).below, (S.to hB).locs.adopt (Nat.le_trans S.below.size hg) (fun x hx => Nat.lt_of_lt_of_le (S.locs.inside x hx) hg) h⟩
theorem St.rats {w W : World} {L : List (Nat × TypeId × List Value)} (S : St w W L) (i : Nat) {g : Nat} {t : TypeId} {vs : List Value} (hi : L[i]? = some (g, t, vs)) {qs : List Rat} (hr : RL W vs qs) {n c : Nat} (hn : n = qs.length) (hc : n ≤ c) : Rats W (.slice (some ⟨g, 0, none⟩) n c) qs := by
  subst hn
  exact .row (S.lt i hi) hc (.of_heap (S.locs.get i hi).2) hr
theorem Locs.sub {w : World} {L M : List (Nat × TypeId × List Value)} (h : List.Sublist L M) : ∀ {lo}, Locs w lo M → Locs w lo L := by
  induction h with
  | slnil => intro _ h; exact h
  | cons a s ih => intro lo h; exact (ih h.2.2).mono (by have := h.1; omega)
  | cons_cons a s ih => intro lo h; exact ⟨h.1, h.2.1, ih h.2.2⟩
theorem St.sub {w W : World} {L M} (S : St w W M) (h : List.Sublist L M) : St w W L := ⟨S.below, Locs.sub h S.locs⟩
structure Sv (w W : World) (L : List (Nat × TypeId × List Value)) : Prop where
  below : Below w.heap.size w W
  all : ∀ (i b : Nat) (t : TypeId) (vs : List Value), L[i]? = some (b, t, vs) → w.heap.size ≤ b ∧ W.heap[b]? = some (.cells (List.toArray vs) t (0, 0))
theorem Sv.hold {w W : World} {L} (S : Sv w W L) : Hold w W := Hold.of_below S.below
theorem Sv.alloc {w W : World} {L} (S : Sv w W L) (t : TypeId) (vs : List Value) (b : Nat) (hb : W.heap.size = b := by simp) : Sv w (W.alloc (.cells vs.toArray t)) (L ++ [(b, t, vs)]) := by
  subst hb
  refine ⟨S.below.alloc S.below.size _, fun i b t' vs' hi => ?_⟩
  by_cases hl : i < L.length
  · rw [List.getElem?_append_left hl] at hi
    have := S.all i b t' vs' hi
    exact ⟨this.1, (Below.heap_alloc _ _ _ (lt_of_heap this.2)).trans this.2⟩
  · rw [List.getElem?_append_right (by omega)] at hi
    have h0 : i - L.length = 0 := by
      have := (List.getElem?_eq_some_iff.1 hi).1
      simpa using this
    rw [h0] at hi
    cases hi
    exact ⟨S.below.size, World.alloc_heap_new W _⟩
theorem Sv.al {w W : World} {L L' : List (Nat × TypeId × List Value)} (S : Sv w W L) (t : TypeId) (vs : List Value) (b : Nat) (hb : W.heap.size = b := by simp) (hL : L ++ [(b, t, vs)] = L' := by first | (simp only [List.cons_append, List.nil_append]; rfl) | rfl) : Sv w (W.alloc (.cells vs.toArray t)) L' := hL ▸ S.alloc t vs b hb
theorem Sv.hnew {w W : World} {L} (_ : Sv w W L) (t : TypeId) (vs : List Value) : Hold W (W.alloc (.cells vs.toArray t)) := Hold.of_below ((Below.refl _ W).alloc (Nat.le_refl _) _)
theorem Sv.drew {w W : World} {L} (S : Sv w W L) : Sv w W.drew L := ⟨S.below.drew, S.all⟩
theorem Sv.c {w W : World} {L} (S : Sv w W L) (i j : Nat) {b t vs v} (hi : L[i]? = some (b, t, vs)) (hj : vs[j]? = some v) : W.cell? ⟨b, j, none⟩ = some v := by
  rw [cell_of_row W b j _ t (0, 0) (S.all i b t vs hi).2]
  simpa using hj
theorem Sv.lt {w W : World} {L} (S : Sv w W L) (i : Nat) {b t vs} (hi : L[i]? = some (b, t, vs)) : b < W.heap.size := lt_of_heap (S.all i b t vs hi).2
theorem Sv.to {w W W' : World} {L} (S : Sv w W L) (hB : Below W.heap.size W W') : Sv w W' L := ⟨S.below.trans (hB.mono S.below.size), fun i b t vs hi => ⟨(S.all i b t vs hi).1, (hB.block b (S.lt i hi)).trans (S.all i b t vs hi).2⟩⟩
theorem Sv.call {w W : World} {L} {P : Program} {f : FuncId} {args : Array Value} {R : Ending → World → Prop} (S : Sv w W L) (hc : Calls P f args W fun e w' => R e w' ∧ Below W.heap.size W w') :
    Calls P f args W fun e w' => R e w' ∧ Sv w w' L ∧ Hold W w' := hc.mono fun _ _ h => ⟨h.1, S.to h.2, Hold.of_below h.2⟩
theorem Sv.c3 {w W : World} {L} (S : Sv w W L) (i : Nat) {b t x0 x1 x2 r} (hi : L[i]? = some (b, t, x0 :: x1 :: x2 :: r)) : W.cell? ⟨b, 0, none⟩ = some x0 ∧ W.cell? ⟨b, 1, none⟩ = some x1 ∧ W.cell? ⟨b, 2, none⟩ = some x2 := ⟨S.c i 0 hi rfl, S.c i 1 hi rfl, S.c i 2 hi rfl⟩
theorem Sv.c6 {w W : World} {L} (S : Sv w W L) (i : Nat) {b t x0 x1 x2 x3 x4 x5 r} (hi : L[i]? = some (b, t, x0 :: x1 :: x2 :: x3 :: x4 :: x5 :: r)) : W.cell? ⟨b, 0, none⟩ = some x0 ∧ W.cell? ⟨b, 1, none⟩ = some x1 ∧ W.cell? ⟨b, 2, none⟩ = some x2 ∧ W.cell? ⟨b, 3, none⟩ = some x3 ∧ W.cell? ⟨b, 4, none⟩ = some x4 ∧ W.cell? ⟨b, 5, none⟩ = some x5 := ⟨S.c i 0 hi rfl, S.c i 1 hi rfl, S.c i 2 hi rfl, S.c i 3 hi rfl, S.c i 4 hi rfl, S.c i 5 hi rfl⟩
theorem Sv.c2 {w W : World} {L} (S : Sv w W L) (i : Nat) {b t x0 x1 r} (hi : L[i]? = some (b, t, x0 :: x1 :: r)) : W.cell? ⟨b, 0, none⟩ = some x0 ∧ W.cell? ⟨b, 1, none⟩ = some x1 := ⟨S.c i 0 hi rfl, S.c i 1 hi rfl⟩
theorem Sv.c4 {w W : World} {L} (S : Sv w W L) (i : Nat) {b t x0 x1 x2 x3 r} (hi : L[i]? = some (b, t, x0 :: x1 :: x2 :: x3 :: r)) : W.cell? ⟨b, 0, none⟩ = some x0 ∧ W.cell? ⟨b, 1, none⟩ = some x1 ∧ W.cell? ⟨b, 2, none⟩ = some x2 ∧ W.cell? ⟨b, 3, none⟩ = some x3 := ⟨S.c i 0 hi rfl, S.c i 1 hi rfl, S.c i 2 hi rfl, S.c i 3 hi rfl⟩
theorem Sv.c5 {w W : World} {L} (S : Sv w W L) (i : Nat) {b t x0 x1 x2 x3 x4 r} (hi : L[i]? = some (b, t, x0 :: x1 :: x2 :: x3 :: x4 :: r)) : W.cell? ⟨b, 0, none⟩ = some x0 ∧ W.cell? ⟨b, 1, none⟩ = some x1 ∧ W.cell? ⟨b, 2, none⟩ = some x2 ∧ W.cell? ⟨b, 3, none⟩ = some x3 ∧ W.cell? ⟨b, 4, none⟩ = some x4 := ⟨S.c i 0 hi rfl, S.c i 1 hi rfl, S.c i 2 hi rfl, S.c i 3 hi rfl, S.c i 4 hi rfl⟩
def Tabs2 (w : World) (v : Value) (A : List (List Rat)) : Prop := ∃ p c, v = .slice p A.length c ∧ (p = none → c = 0) ∧ A.length ≤ c ∧ ∀ (j : Nat) row, A[j]? = some row → ∃ g off rv, p = some ⟨g, off, none⟩ ∧ g < w.heap.size ∧ w.cell? ⟨g, off + j, none⟩ = some rv ∧ Rats w rv row
theorem Tabs2.to {w w' : World} {v : Value} {A : List (List Rat)} (h : Tabs2 w v A) (hB : Below w.heap.size w w') : Tabs2 w' v A := by
  obtain ⟨p, c, e, h1, h2, h3⟩ := h
  refine ⟨p, c, e, h1, h2, fun j q hq => ?_⟩
  obtain ⟨g, off, rv, hp, hg, a0, hr⟩ := h3 j q hq
  exact ⟨g, off, rv, hp, Nat.lt_of_lt_of_le hg hB.size, (hB.cell (p := ⟨g, off + j, none⟩) hg).trans a0, hr.to hB⟩
theorem Tabs2.form {w : World} {v : Value} {A : List (List Rat)} (h : Tabs2 w v A) : ∃ p c, v = .slice p A.length c := by
  obtain ⟨p, c, e, _⟩ := h
  exact ⟨p, c, e⟩
theorem Tabs2.get {w : World} {p : Option Addr} {n c : Nat} {A : List (List Rat)} (h : Tabs2 w (.slice p n c) A) {j : Nat} (hj : j < n) : ∃ g off row q d, p = some ⟨g, off, none⟩ ∧ g < w.heap.size ∧ A[j]? = some row ∧ w.cell? ⟨g, off + j, none⟩ = some (.slice q row.length d) ∧ Rats w (.slice q row.length d) row := by
  obtain ⟨p', c', e, _, _, h3⟩ := h
  cases e
  have hq : A[j]? = some (A[j]'hj) := List.getElem?_eq_getElem _
  obtain ⟨g, off, rv, hp, hg, a0, hr⟩ := h3 j _ hq
  obtain ⟨q, d, rfl⟩ := hr.form
  exact ⟨g, off, _, q, d, hp, hg, hq, a0, hr⟩
end Go.Proofs.YtcfgefbkeeedgaaGreat
