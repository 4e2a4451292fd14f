/-
  Slices of numbers in memory, as lists. The call's own variables, a block each, from one step of a walk to the next. The call's own variables where nothing is stored into them any more.
-/
import Derived.Test.YtnkmcikjeicpfaaDoorM01
import Derived.Test.YtnkmcikjeicpfaaDoorM02
import Derived.Lib.Hide

namespace Go.Proofs.YtnkmcikjeicpfaaDoor
open Go.RowKit

/-- From p on the numbers ds of kind q stand in memory; where there are none p may be nothing. -/
def At (q : IntKind) (w : World) (p : Option Addr) (cap : Nat) (ds : List Nat) : Prop :=
  (p = none ∧ ds = [] ∧ cap = 0) ∨ ∃ b off, p = some ⟨b, off, none⟩ ∧ ds.length ≤ cap ∧ b < w.heap.size ∧ ∀ j, j < ds.length → w.cell? ⟨b, off + j, none⟩ = some (.int q ((dg ds j : Nat) : Int))

/-- The slice value v holds the numbers ds of kind q. -/
def Nums (q : IntKind) (w : World) (v : Value) (ds : List Nat) : Prop := ∃ p cap, v = .slice p ds.length cap ∧ At q w p cap ds

theorem Nums.nil (q : IntKind) (w : World) : Nums q w (.slice none 0 0) [] := ⟨none, 0, rfl, .inl ⟨rfl, rfl, rfl⟩⟩

theorem At.below {q : IntKind} {B : Nat} {w w' : World} {p : Option Addr} {cap : Nat} {ds : List Nat} (hb : Below B w w') (hB : w.heap.size ≤ B) : At q w p cap ds → At q w' p cap ds
  | .inl h => .inl h
  | .inr ⟨b, off, e, hc, hs, h⟩ => .inr ⟨b, off, e, hc, Nat.lt_of_lt_of_le hs hb.size, fun j hj => (hb.cell (p := ⟨b, off + j, none⟩) (Nat.lt_of_lt_of_le hs hB)).trans (h j hj)⟩

theorem Nums.below {q : IntKind} {B : Nat} {w w' : World} {v : Value} {ds : List Nat} (hb : Below B w w') (hB : w.heap.size ≤ B) : Nums q w v ds → Nums q w' v ds
  | ⟨p, cap, e, h⟩ => ⟨p, cap, e, h.below hb hB⟩

theorem At.pos {q : IntKind} {w : World} {p : Option Addr} {cap : Nat} {ds : List Nat} (h : At q w p cap ds) (hn : 0 < ds.length) :
    ∃ b off, p = some ⟨b, off, none⟩ ∧ ds.length ≤ cap ∧ b < w.heap.size ∧ ∀ j, j < ds.length → w.cell? ⟨b, off + j, none⟩ = some (.int q ((dg ds j : Nat) : Int)) := by
  rcases h with ⟨_, rfl, _⟩ | h
  · simp at hn
  · exact h

theorem At.le_cap {q : IntKind} {w : World} {p : Option Addr} {cap : Nat} {ds : List Nat} : At q w p cap ds → ds.length ≤ cap
  | .inl ⟨_, e, _⟩ => by simp [e]
  | .inr ⟨_, _, _, h, _⟩ => h

theorem At.block {q : IntKind} {w : World} {p : Option Addr} {cap : Nat} {ds : List Nat} (h : At q w p cap ds) : ∀ a, p = some a → a.block < w.heap.size := by
  intro a ha
  rcases h with ⟨rfl, _⟩ | ⟨b, o, rfl, _, hb, _⟩
  · cases ha
  · cases ha; exact hb

/-- A store into a cell that holds no number of this kind leaves the numbers as they are. -/
theorem At.other {q : IntKind} {w : World} {p : Option Addr} {cap : Nat} {ds : List Nat} (h : At q w p cap ds) {a : Addr} {v : Value} (u : Value) (hc : w.cell? a = some v) (hv : ∀ n, v ≠ .int q n) : At q (w.setCell a u) p cap ds := by
  rcases h with h | ⟨b, off, e, h1, h2, h3⟩
  · exact .inl h
  · refine .inr ⟨b, off, e, h1, by simpa using h2, fun j hj => ?_⟩
    rw [World.cell?_setCell_other]
    · exact h3 j hj
    · rintro rfl
      rw [h3 j hj] at hc
      exact hv _ (by cases hc; rfl)

/-- A block that the call has just laid. -/
theorem nums_new (q : IntKind) (w : World) (t : TypeId) (arr : Array Value) (ds : List Nat) (cap : Nat) (hc : ds.length ≤ cap) (h : ∀ j, j < ds.length → arr[j]? = some (.int q ((dg ds j : Nat) : Int))) :
    Nums q (w.alloc (.cells arr t)) (.slice (some ⟨w.heap.size, 0, none⟩) ds.length cap) ds :=
  ⟨_, _, rfl, .inr ⟨w.heap.size, 0, rfl, hc, by simp, fun j hj => by rw [Nat.zero_add]; rw [World.cell?_alloc_new]; exact h j hj⟩⟩

/-- The number n to the base 2^32, as it stands by itself. -/
def IsNat (w : World) (v : Value) (n : Nat) : Prop := ∃ ds, Nums .u32 w v ds ∧ Can 4294967296 ds ∧ val 4294967296 ds = n

theorem IsNat.below {B : Nat} {w w' : World} {v : Value} {n : Nat} (hb : Below B w w') (hB : w.heap.size ≤ B) : IsNat w v n → IsNat w' v n
  | ⟨ds, h, c⟩ => ⟨ds, h.below hb hB, c⟩

end Go.Proofs.YtnkmcikjeicpfaaDoor

namespace Go.Proofs.YtnkmcikjeicpfaaDoor
open Go.RowKit

/-- From block lo on, in this order, there stand the cells of the call's own variables. -/
def Locs (w : World) : Nat → List (Nat × TypeId × List Value) → Prop
  | _, [] => True
  | lo, (b, t, vs) :: r => lo ≤ b ∧ w.heap[b]? = some (.cells vs.toArray t (0, 0)) ∧ Locs w (b + 1) r

/-- One cell of one variable holds another value. -/
def setL : List (Nat × TypeId × List Value) → Nat → Nat → Value → List (Nat × TypeId × List Value)
  | [], _, _, _ => []
  | (b, t, vs) :: r, 0, j, v => (b, t, vs.set j v) :: r
  | x :: r, i + 1, j, v => x :: setL r i j v

theorem Locs.mono {w : World} {lo lo' : Nat} (hl : lo' ≤ lo) : ∀ {L}, Locs w lo L → Locs w lo' L
  | [], _ => trivial
  | _ :: _, ⟨h1, h2, h3⟩ => ⟨Nat.le_trans hl h1, h2, h3⟩
theorem Locs.get {w : World} {b t vs} : ∀ {L lo} (i : Nat), Locs w lo L → L[i]? = some (b, t, vs) → lo ≤ b ∧ w.heap[b]? = some (.cells (List.toArray vs) t (0, 0))
  | [], _, _, _, e => by simp at e
  | _ :: _, _, 0, ⟨h1, h2, _⟩, e => by cases e; exact ⟨h1, h2⟩
  | (b0, _, _) :: r, lo, i + 1, ⟨h1, _, h3⟩, e => by
    have := Locs.get (L := r) i h3 (by simpa using e)
    exact ⟨by omega, this.2⟩
theorem lt_of_heap {w : World} {b : Nat} {o : Obj} (h : w.heap[b]? = some o) : b < w.heap.size := (Array.getElem?_eq_some_iff.1 h).1
theorem Locs.keep {w w' : World} (hk : ∀ b, b < w.heap.size → w'.heap[b]? = w.heap[b]?) : ∀ {L lo}, Locs w lo L → Locs w' lo L
  | [], _, _ => trivial
  | _ :: _, _, ⟨h1, h2, h3⟩ => ⟨h1, (hk _ (lt_of_heap h2)).trans h2, Locs.keep hk h3⟩
theorem Locs.push {w : World} {t : TypeId} {vs : List Value} : ∀ {L lo}, Locs w lo L → lo ≤ w.heap.size → Locs (w.alloc (.cells vs.toArray t)) lo (L ++ [(w.heap.size, t, vs)])
  | [], _, _, hl => ⟨hl, World.alloc_heap_new w _, trivial⟩
  | _ :: _, _, ⟨h1, h2, h3⟩, _ => ⟨h1, (Below.heap_alloc _ _ _ (lt_of_heap h2)).trans h2, Locs.push h3 (lt_of_heap h2)⟩
theorem Locs.set {w : World} {j : Nat} {v : Value} {b t vs} : ∀ {L lo} (i : Nat), Locs w lo L → L[i]? = some (b, t, vs) → Locs (w.setCell ⟨b, j, none⟩ v) lo (setL L i j v)
  | [], _, _, _, e => by simp at e
  | (b0, t0, vs0) :: r, lo, 0, ⟨h1, h2, h3⟩, e => by
    obtain ⟨rfl, rfl, rfl⟩ : b0 = b ∧ t0 = t ∧ vs0 = vs := by simpa using e
    have hlt := lt_of_heap h2
    refine ⟨h1, ?_, ?_⟩
    · unfold World.setCell
      simp only [Array.getElem?_modify, if_true, h2, Option.map_some]
      simp
    · have hk : ∀ {L lo}, b0 < lo → Locs w lo L → Locs (w.setCell ⟨b0, j, none⟩ v) lo L := by
        intro L
        induction L with
        | nil => intro _ _ _; trivial
        | cons x r ih =>
          intro lo hl ⟨a1, a2, a3⟩
          exact ⟨a1, (Below.heap_setCell _ _ _ _ (by show x.1 ≠ b0; omega)).trans a2, ih (by omega) a3⟩
      exact hk (Nat.lt_succ_self _) h3
  | (b0, t0, vs0) :: r, lo, i + 1, ⟨h1, h2, h3⟩, e => by
    have e' : r[i]? = some (b, t, vs) := by simpa using e
    have hb := (Locs.get i h3 e').1
    exact ⟨h1, (Below.heap_setCell _ _ _ _ (by show b0 ≠ b; omega)).trans h2, Locs.set i h3 e'⟩

/-- What stands in memory as a number stays so. -/
structure Hold (w w' : World) : Prop where
  size : w.heap.size ≤ w'.heap.size
  num : ∀ a q n, w.cell? a = some (.int q n) → w'.cell? a = some (.int q n)
/-- What stands in memory as a digit stays so. -/
structure Hold32 (w w' : World) : Prop where
  size : w.heap.size ≤ w'.heap.size
  u32 : ∀ a n, w.cell? a = some (.int .u32 n) → w'.cell? a = some (.int .u32 n)
theorem Hold.to32 {w w' : World} (h : Hold w w') : Hold32 w w' := ⟨h.size, fun a n e => h.num a .u32 n e⟩
theorem Hold.refl (w : World) : Hold w w := ⟨Nat.le_refl _, fun _ _ _ h => h⟩
theorem Hold.trans {a b c : World} (h : Hold a b) (k : Hold b c) : Hold a c := ⟨Nat.le_trans h.size k.size, fun p q n e => k.num p q n (h.num p q n e)⟩
theorem Hold.of_below {w w' : World} (h : Below w.heap.size w w') : Hold w w' := ⟨h.size, fun a _ _ e => (h.cell (p := a) (World.block_lt_of_cell? w a e)).trans e⟩
theorem Hold.set {w : World} {p : Addr} {x : Value} (hx : w.cell? p = some x) (hn : ∀ q n, x ≠ .int q n) (v : Value) : Hold w (w.setCell p v) := by
  refine ⟨by simp, fun a q n e => ?_⟩
  rw [World.cell?_setCell_other]
  · exact e
  · rintro rfl
    rw [hx] at e
    exact hn _ _ (by cases e; rfl)
theorem Hold32.set {w : World} {p : Addr} {x : Value} (hx : w.cell? p = some x) (hn : ∀ n, x ≠ .int .u32 n) (v : Value) : Hold32 w (w.setCell p v) := by
  refine ⟨by simp, fun a n e => ?_⟩
  rw [World.cell?_setCell_other]
  · exact e
  · rintro rfl
    rw [hx] at e
    exact hn _ (by cases e; rfl)
theorem Hold.drew (w : World) : Hold w w.drew := Hold.of_below (Below.refl _ w).drew
theorem At.hold32 {w w' : World} {p : Option Addr} {cap : Nat} {ds : List Nat} (h : Hold32 w w') : At .u32 w p cap ds → At .u32 w' p cap ds
  | .inl a => .inl a
  | .inr ⟨b, off, e, h1, h2, h3⟩ => .inr ⟨b, off, e, h1, Nat.lt_of_lt_of_le h2 h.size, fun j hj => h.u32 _ _ (h3 j hj)⟩
theorem At.hold {q : IntKind} {w w' : World} {p : Option Addr} {cap : Nat} {ds : List Nat} (h : Hold w w') : At q w p cap ds → At q w' p cap ds
  | .inl a => .inl a
  | .inr ⟨b, off, e, h1, h2, h3⟩ => .inr ⟨b, off, e, h1, Nat.lt_of_lt_of_le h2 h.size, fun j hj => h.num _ _ _ (h3 j hj)⟩
theorem Nums.hold {q : IntKind} {w w' : World} {v : Value} {ds : List Nat} (h : Hold w w') : Nums q w v ds → Nums q w' v ds
  | ⟨p, K, e, a⟩ => ⟨p, K, e, a.hold h⟩
theorem IsNat.hold32 {w w' : World} {v : Value} {n : Nat} (h : Hold32 w w') : IsNat w v n → IsNat w' v n
  | ⟨ds, ⟨p, K, e, a⟩, c⟩ => ⟨ds, ⟨p, K, e, a.hold32 h⟩, c⟩
theorem IsNat.hold {w w' : World} {v : Value} {n : Nat} (h : Hold w w') : IsNat w v n → IsNat w' v n
  | ⟨ds, ⟨p, K, e, a⟩, c⟩ => ⟨ds, ⟨p, K, e, a.hold h⟩, c⟩

/-- A call that began in w stands in W: what lay ahead is as it was, the call's own variables are these. -/
structure St (w W : World) (L : List (Nat × TypeId × List Value)) : Prop where
  below : Below w.heap.size w W
  locs : Locs W w.heap.size L
theorem St.hold {w W : World} {L} (S : St w W L) : Hold w W := Hold.of_below S.below
theorem St.start (w : World) : St w w [] := ⟨Below.refl _ w, trivial⟩
theorem St.alloc {w W : World} {L} (S : St w W L) (t : TypeId) (vs : List Value) (b : Nat) (hb : W.heap.size = b := by simp) : St w (W.alloc (.cells vs.toArray t)) (L ++ [(b, t, vs)]) := by
  subst hb
  exact ⟨S.below.alloc S.below.size _, S.locs.push S.below.size⟩
theorem St.set {w W : World} {L} (S : St w W L) (i j : Nat) (v : Value) {b t vs} (hi : L[i]? = some (b, t, vs)) : St w (W.setCell ⟨b, j, none⟩ v) (setL L i j v) :=
  ⟨S.below.setCell (p := ⟨b, j, none⟩) (S.locs.get i hi).1 v, S.locs.set i hi⟩
theorem St.drew {w W : World} {L} (S : St w W L) : St w W.drew L := ⟨S.below.drew, Locs.keep (w := W) (w' := W.drew) (fun _ _ => rfl) S.locs⟩
theorem St.c {w W : World} {L} (S : St w W L) (i j : Nat) {b t vs v} (hi : L[i]? = some (b, t, vs)) (hj : vs[j]? = some v) : W.cell? ⟨b, j, none⟩ = some v := by
  rw [cell_of_row W b j _ t (0, 0) (S.locs.get i hi).2]
  simpa using hj
theorem St.f {w W : World} {L} (S : St w W L) (i j : Nat) {b t vs} (hi : L[i]? = some (b, t, vs)) : W.frozen? ⟨b, j, none⟩ = false := by
  have h' := (S.locs.get i hi).2
  simp [World.frozen?, h']
theorem St.lt {w W : World} {L} (S : St w W L) (i : Nat) {b t vs} (hi : L[i]? = some (b, t, vs)) : b < W.heap.size := lt_of_heap (S.locs.get i hi).2
theorem St.to {w W W' : World} {L} (S : St w W L) (hB : Below W.heap.size W W') : St w W' L := ⟨S.below.trans (hB.mono S.below.size), S.locs.keep fun b hb => hB.block b hb⟩
theorem St.call {w W : World} {L} {P : Program} {f : FuncId} {args : Array Value} {R : Ending → World → Prop} (S : St w W L) (hc : Calls P f args W fun e w' => R e w' ∧ Below W.heap.size W w') :
    Calls P f args W fun e w' => R e w' ∧ St w w' L ∧ Hold W w' := hc.mono fun _ _ h => ⟨h.1, S.to h.2, Hold.of_below h.2⟩
theorem St.hnew {w W : World} {L} (_ : St w W L) (t : TypeId) (vs : List Value) : Hold W (W.alloc (.cells vs.toArray t)) := Hold.of_below ((Below.refl _ W).alloc (Nat.le_refl _) _)
theorem Locs.take {w : World} : ∀ {L M lo}, Locs w lo (L ++ M) → Locs w lo L
  | [], _, _, _ => trivial
  | _ :: _, _, _, ⟨h1, h2, h3⟩ => ⟨h1, h2, Locs.take h3⟩
/-- The first k variables alone. -/
theorem St.take {w W : World} {M} (S : St w W M) (k : Nat) {L} (h : M.take k = L) : St w W L := ⟨S.below, by subst h; exact Locs.take (M := M.drop k) (by rw [List.take_append_drop]; exact S.locs)⟩
/-- A store into a variable's cell that holds no number (no digit). -/
theorem St.hset {w W : World} {L} (S : St w W L) (i j : Nat) (v : Value) {b t vs x} (hi : L[i]? = some (b, t, vs)) (hj : vs[j]? = some x) (hn : ∀ q n, x ≠ .int q n) : Hold W (W.setCell ⟨b, j, none⟩ v) := Hold.set (S.c i j hi hj) hn v
theorem St.hset32 {w W : World} {L} (S : St w W L) (i j : Nat) (v : Value) {b t vs x} (hi : L[i]? = some (b, t, vs)) (hj : vs[j]? = some x) (hn : ∀ n, x ≠ .int .u32 n) : Hold32 W (W.setCell ⟨b, j, none⟩ v) := Hold32.set (S.c i j hi hj) hn v

end Go.Proofs.YtnkmcikjeicpfaaDoor

namespace Go.Proofs.YtnkmcikjeicpfaaDoor
open Go.RowKit

theorem Locs.sub {w : World} {L M : List (Nat × TypeId × List Value)} (h : List.Sublist L M) : ∀ {lo}, Locs w lo M → Locs w lo L := by
  induction h with
  | slnil => intro _ h; exact h
  | cons a s ih => intro lo h; exact (ih h.2.2).mono (by have := h.1; omega)
  | cons_cons a s ih => intro lo h; exact ⟨h.1, h.2.1, ih h.2.2⟩
/-- Some of the variables alone. -/
theorem St.sub {w W : World} {L M} (S : St w W M) (h : List.Sublist L M) : St w W L := ⟨S.below, Locs.sub h S.locs⟩
/-- The same, in whatever order the variables were laid: nothing is stored into them from here on. -/
structure Sv (w W : World) (L : List (Nat × TypeId × List Value)) : Prop where
  below : Below w.heap.size w W
  all : ∀ (i b : Nat) (t : TypeId) (vs : List Value), L[i]? = some (b, t, vs) → w.heap.size ≤ b ∧ W.heap[b]? = some (.cells (List.toArray vs) t (0, 0))
theorem Sv.of {w W : World} {M L} (S : St w W M) (ks : List Nat) (h : ks.map (fun k => M[k]?) = L.map some) : Sv w W L := by
  refine ⟨S.below, fun i b t vs hi => ?_⟩
  have h1 : (ks.map (fun k => M[k]?))[i]? = (L.map some)[i]? := by rw [h]
  rw [List.getElem?_map, List.getElem?_map, hi] at h1
  cases hk : ks[i]? with
  | none => rw [hk] at h1; cases h1
  | some k =>
    rw [hk] at h1
    have h2 : M[k]? = some (b, t, vs) := by simpa using h1
    exact S.locs.get k h2
theorem Sv.hold {w W : World} {L} (S : Sv w W L) : Hold w W := Hold.of_below S.below
theorem Sv.alloc {w W : World} {L} (S : Sv w W L) (t : TypeId) (vs : List Value) (b : Nat) (hb : W.heap.size = b := by simp) : Sv w (W.alloc (.cells vs.toArray t)) (L ++ [(b, t, vs)]) := by
  subst hb
  refine ⟨S.below.alloc S.below.size _, fun i b t' vs' hi => ?_⟩
  by_cases hl : i < L.length
  · rw [List.getElem?_append_left hl] at hi
    have := S.all i b t' vs' hi
    exact ⟨this.1, (Below.heap_alloc _ _ _ (lt_of_heap this.2)).trans this.2⟩
  · rw [List.getElem?_append_right (by omega)] at hi
    have h0 : i - L.length = 0 := by
      have := (List.getElem?_eq_some_iff.1 hi).1
      simpa using this
    rw [h0] at hi
    cases hi
    exact ⟨S.below.size, World.alloc_heap_new W _⟩
theorem Sv.hnew {w W : World} {L} (_ : Sv w W L) (t : TypeId) (vs : List Value) : Hold W (W.alloc (.cells vs.toArray t)) := Hold.of_below ((Below.refl _ W).alloc (Nat.le_refl _) _)
theorem Sv.drew {w W : World} {L} (S : Sv w W L) : Sv w W.drew L := ⟨S.below.drew, S.all⟩
theorem Sv.c {w W : World} {L} (S : Sv w W L) (i j : Nat) {b t vs v} (hi : L[i]? = some (b, t, vs)) (hj : vs[j]? = some v) : W.cell? ⟨b, j, none⟩ = some v := by
  rw [cell_of_row W b j _ t (0, 0) (S.all i b t vs hi).2]
  simpa using hj
theorem Sv.lt {w W : World} {L} (S : Sv w W L) (i : Nat) {b t vs} (hi : L[i]? = some (b, t, vs)) : b < W.heap.size := lt_of_heap (S.all i b t vs hi).2
theorem Sv.to {w W W' : World} {L} (S : Sv w W L) (hB : Below W.heap.size W W') : Sv w W' L := ⟨S.below.trans (hB.mono S.below.size), fun i b t vs hi => ⟨(S.all i b t vs hi).1, (hB.block b (S.lt i hi)).trans (S.all i b t vs hi).2⟩⟩
theorem Sv.call {w W : World} {L} {P : Program} {f : FuncId} {args : Array Value} {R : Ending → World → Prop} (S : Sv w W L) (hc : Calls P f args W fun e w' => R e w' ∧ Below W.heap.size W w') :
    Calls P f args W fun e w' => R e w' ∧ Sv w w' L ∧ Hold W w' := hc.mono fun _ _ h => ⟨h.1, S.to h.2, Hold.of_below h.2⟩

end Go.Proofs.YtnkmcikjeicpfaaDoor
