/-
  What the statement stands on.
-/
import Derived.RangeFuncNested
import Derived.RangeFuncBound
import Derived.RangeFuncCalls
import Derived.RangeFuncLeaves
import Derived.RangeFuncBox
import Derived.WalkKit
import Derived.OwnWalkIn
import Derived.TacticsInMore
import Derived.LoopNIn
import Derived.LoopIn
import Derived.Shelf.Abstract
namespace Go.Proofs.YtcfgefbkeeedgaaGreat
open Go.RowKit
@[go_sem] theorem wide_fn (k : FuncId) : Fence.wide.fn k = True := rfl
@[go_sem] theorem wide_fn_in (l : Nat) (k : FuncId) : (Fence.wide.inRound l).fn k = True := rfl
@[go_sem] theorem wide_depth : Fence.wide.depth = none := rfl
@[go_sem] theorem wide_depth_in (l : Nat) : (Fence.wide.inRound l).depth = none := rfl
def roundEnd (B : Nat) (I : Nat → World → Prop) (Ix : Code → Nat → World → Prop) (k : Nat) (W : World) : Exit → Act → World → Prop
  | .normal, _, W' => KeepsFrom B W W' ∧ I k W'
  | .ret, _, W' => KeepsFrom B W W' ∧ Ix .ret k W'
  | .exit id, _, W' => KeepsFrom B W W' ∧ Ix (.exit id) k W'
  | .goto t, _, W' => KeepsFrom B W W' ∧ Ix (.goto t) k W'
  | .panic _, _, _ => False
  | .outgrown, _, _ => False
def SeqIs (n : Nat) (P : Program) (gf : Nat) (lb : Array Value) (N : Nat) (xs : Nat → Array Value) (I : Nat → World → Prop) : Prop :=
  ∀ (l : Nat) (J Jx : Nat → World → Prop) (W : World), (∀ k W1, J k W1 → I k W1) → J 0 W →
    (∀ k W1, k < N → J k W1 → YieldAt Fence.wide (n - 1) P l (xs k) W1 fun e W' => (e = .returned (.bool true) ∧ J (k + 1) W') ∨ (e = .returned (.bool false) ∧ Jx (k + 1) W')) →
    CallsIn Fence.wide n P gf (#[.func (.yield l) #[] #[]] ++ lb) W fun e W' => (∃ v, e = .returned v) ∧ (J N W' ∨ ∃ k, k ≤ N ∧ Jx k W')
theorem grown_below {B C : Nat} {a W W' : World} {row : Option Nat} (h : Below B a W) (hg : W.grownBy W' row) (hr : ∀ r, row = some r → C ≤ r ∧ ∃ o : Obj, W.heap[r]? = some o ∧ o.isCells = false)
    (h1 : B ≤ C) (h2 : B ≤ a.heap.size) : Below B a W' := h.grown hg (Nat.le_trans h2 h.size) fun k e => Nat.le_trans h1 (hr k e).1
theorem rangeList {P : Program} {n : Nat} {g : Operand} {ps : Array Tmp} {assign body : Code} {Q : Exit → Act → World → Prop} {a : Act} {w : World}
    {gf : Nat} {lb : Array Value} (hg : a.eval g = .func (.func gf) #[] lb) (eg : ∀ args w, (callFunc gf args).run P w = .ok (.enter gf args) w)
    (N : Nat) (xs : Nat → Array Value) (hps : ∀ k, (xs k).size = ps.size) (I : Nat → World → Prop) (Ix : Code → Nat → World → Prop)
    (hI : OwnFrom w.heap.size I) (hIx : ∀ c, OwnFrom w.heap.size (Ix c)) (h0 : I 0 w) (hit : SeqIs (n - 1) P gf lb N xs I)
    (hround : ∀ (l k : Nat) (W Wb : World), k < N → I k Wb →
      assign.wpIn (Fence.wide.inRound l) (n - 1 - 1) P (Exit.then (fun a' W' => W' = W ∧ body.wpIn (Fence.wide.inRound l) (n - 1 - 1) P (roundEnd w.heap.size I Ix (k + 1) Wb) a' Wb) (fun _ _ _ => False))
        { tmps := (ps.zip (xs k)).foldl (fun t (p, v) => t.setIfInBounds p v) a.tmps, defers := [] } W)
    (hdone : ∀ (D : Nat) (W : World), w.heap.size ≤ D → I N W → W.heap[D]? = some (.deferred (some [])) → Q .normal { a with defers := { target := .collected D, args := #[] } :: a.defers } W)
    (hstop : ∀ (D : Nat) (c : Code) (k : Nat) (W : World), w.heap.size ≤ D → k ≤ N → Ix c k W → W.heap[D]? = some (.deferred (some [])) → c.wpIn Fence.wide n P Q { a with defers := { target := .collected D, args := #[] } :: a.defers } W) :
    (Code.rangeFunc g ps assign body).wpIn Fence.wide n P Q a w := by
  refine wpIn_rangeFunc fun fn hfn => ?_
  let B := w.heap.size
  let R : LoopState → Option Code → Loop := fun st pe => { state := st, pending := pe, fn, tmps := a.tmps, params := ps, assign, body, defers := B }
  -- the two facts that go with the caller's own word through all rounds
  let Two : LoopState → Option Code → World → Prop := fun st pe W => W.heap[B + 1]? = some (.loop (R st pe)) ∧ W.heap[B]? = some (.deferred (some []))
  have turn : ∀ {st pe} (st' : LoopState) (pe' : Option Code) {W : World}, Two st pe W → Two st' pe' (W.putObj (B + 1) (.loop (R st' pe'))) := fun st' pe' W h =>
    ⟨World.putObj_heap_same (Array.getElem?_eq_some_iff.1 h.1).1, (World.putObj_heap_other (by omega)).trans h.2⟩
  have stay : ∀ {st pe} {W W' : World}, KeepsFrom B W W' → Two st pe W → Two st pe W' := fun k h => ⟨k.same _ _ (by omega) h.1 rfl, k.same _ _ (Nat.le_refl _) h.2 rfl⟩
  refine ⟨B + 1, [{ target := .collected B, args := #[] }], (w.alloc (.deferred (some []))).alloc (.loop (R .ready none)), { target := .fn (.func gf) lb, args := #[.func (.yield (B + 1)) #[] #[]] },
    (w.alloc (.deferred (some []))).alloc (.loop (R .ready none)), gf, #[.func (.yield (B + 1)) #[] #[]] ++ lb, (w.alloc (.deferred (some []))).alloc (.loop (R .ready none)),
    run_enterLoop_outer _ _ _ _ _, by simp only [resolve, hg]; simp [go_sem, B], fun _ _ => trivial, by simp [invoke, go_sem, eg], fun h => by simp [Fence.wide] at h, ?_⟩
  have start : Two .ready none ((w.alloc (.deferred (some []))).alloc (.loop (R .ready none))) := by
    refine ⟨?_, (Below.heap_alloc _ _ _ (by simp [B])).trans (World.alloc_heap_new w _)⟩
    have := World.alloc_heap_new (w.alloc (.deferred (some []))) (.loop (R .ready none))
    rwa [World.size_alloc] at this
  refine (hit (B + 1) (fun k W => I k W ∧ Two .ready none W) (fun k W => ∃ c, Ix c k W ∧ Two .done (some c) W) _ (fun _ _ h => h.1) ⟨hI.alloc _ (hI.alloc _ h0), start⟩ ?_).mono ?_
  · rintro k W hk ⟨hi, ht⟩
    have hy := run_yield (P := P) (args := xs k) ht.1 (hps k)
    refine ⟨fn, _, assign, body, hy, roundIn_of_wpIn hfn (wpIn_mono (hround (B + 1) k W (W.putObj (B + 1) (.loop (R .busy none))) hk (hI.putObj _ hi (by omega) ht.1 rfl)) ?_)⟩
    have ht2 : Two .busy none (W.putObj (B + 1) (.loop (R .busy none))) := turn _ _ ht
    rintro e1 a1 W1 hp1
    cases e1 <;> first | exact hp1.elim | skip
    obtain ⟨rfl, hbody⟩ := hp1
    refine ⟨_, run_beginRound ht.1 rfl, wpIn_mono hbody ?_⟩
    rintro e a3 W3 hp
    cases e with
    | normal =>
      have h3 := stay hp.1 ht2
      exact ⟨_, _, run_endRound none h3.1, .inl ⟨rfl, hI.putObj _ hp.2 (by omega) h3.1 rfl, turn .ready none h3⟩⟩
    | ret =>
      have h3 := stay hp.1 ht2
      exact ⟨_, _, run_endRound (some .ret) h3.1, .inr ⟨rfl, .ret, (hIx _).putObj _ hp.2 (by omega) h3.1 rfl, turn .done _ h3⟩⟩
    | exit id =>
      have h3 := stay hp.1 ht2
      exact ⟨_, _, run_endRound (some (.exit id)) h3.1, .inr ⟨rfl, .exit id, (hIx _).putObj _ hp.2 (by omega) h3.1 rfl, turn .done _ h3⟩⟩
    | goto t =>
      have h3 := stay hp.1 ht2
      exact ⟨_, _, run_endRound (some (.goto t)) h3.1, .inr ⟨rfl, .goto t, (hIx _).putObj _ hp.2 (by omega) h3.1 rfl, turn .done _ h3⟩⟩
    | panic ch => exact hp.elim
    | outgrown => exact hp.elim
  · rintro e W2 ⟨⟨v, rfl⟩, (⟨hi, ht⟩ | ⟨k, hk, c, hi, ht⟩)⟩
    · exact ⟨none, _, run_endLoop ht.1 (by simp [R]), hdone B _ (Nat.le_refl _) (hI.putObj _ hi (by omega) ht.1 rfl) ((World.putObj_heap_other (by omega)).trans ht.2)⟩
    · exact ⟨some c, _, run_endLoop ht.1 (by simp [R]), hstop B c k _ (Nat.le_refl _) hk ((hIx c).putObj _ hi (by omega) ht.1 rfl) ((World.putObj_heap_other (by omega)).trans ht.2)⟩
theorem rangePlain {P : Program} {g : Operand} {ps : Array Tmp} {assign body : Code} {Q : Exit → Act → World → Prop} {a : Act} {w : World}
    {gf : Nat} {lb : Array Value} (hg : a.eval g = .func (.func gf) #[] lb) (eg : ∀ args w, (callFunc gf args).run P w = .ok (.enter gf args) w)
    (N : Nat) (xs : Nat → Array Value) (hps : ∀ k, (xs k).size = ps.size) (I : Nat → World → Prop) (Ix : Code → Nat → World → Prop)
    (hI : OwnFrom w.heap.size I) (hIx : ∀ c, OwnFrom w.heap.size (Ix c)) (h0 : I 0 w) (hit : SeqIs 2 P gf lb N xs I)
    (hround : ∀ (l k : Nat) (W Wb : World), k < N → I k Wb →
      assign.wpIn (Fence.wide.inRound l) 1 P (Exit.then (fun a' W' => W' = W ∧ body.wpIn (Fence.wide.inRound l) 1 P (roundEnd w.heap.size I Ix (k + 1) Wb) a' Wb) (fun _ _ _ => False))
        { tmps := (ps.zip (xs k)).foldl (fun t (p, v) => t.setIfInBounds p v) a.tmps, defers := [] } W)
    (hdone : ∀ (D : Nat) (W : World), w.heap.size ≤ D → I N W → W.heap[D]? = some (.deferred (some [])) → Q .normal { a with defers := { target := .collected D, args := #[] } :: a.defers } W)
    (hstop : ∀ (D : Nat) (c : Code) (k : Nat) (W : World), w.heap.size ≤ D → k ≤ N → Ix c k W → W.heap[D]? = some (.deferred (some [])) → c.wp P Q { a with defers := { target := .collected D, args := #[] } :: a.defers } W) :
    (Code.rangeFunc g ps assign body).wp P Q a w :=
  (wpIn_wide (n := 3)).1 (rangeList hg eg N xs hps I Ix hI hIx h0 hit hround hdone (fun D c k W h1 h2 h3 h4 => wpIn_wide.2 (hstop D c k W h1 h2 h3 h4)))
theorem calls_marks {P : Program} {f : FuncId} {fn : Func} {c : Code} {args : Array Value} {w : World} {R : Ending → World → Prop} (hf : P.funcs[f]? = some fn) (hb : fn.body = some c)
    (h : c.wp P (bodyPostM Fence.wide 3 P fn R) { tmps := args ++ Array.replicate (fn.ntmps - args.size) undef, defers := [] } w) : Calls P f args w R :=
  callsIn_wide.1 (callsIn_of_wp_marks hf hb trivial ((wpIn_wide (n := 3)).2 h) rfl)
theorem marks_ret {P : Program} {fn : Func} {R : Ending → World → Prop} {tmps : Array Value} {w : World} {D : Nat} {v : Value} (hK : w.heap[D]? = some (.deferred (some [])))
    (hv : (results fn tmps).run P (w.putObj D (.deferred none)) = .ok v (w.putObj D (.deferred none))) (hR : R (.returned v) (w.putObj D (.deferred none))) :
    bodyPostM Fence.wide 3 P fn R .ret { tmps := tmps, defers := [{ target := .collected D, args := #[] }] } w :=
  ⟨by simp, .inl ⟨_, _, rfl, run_takeDeferred hK, v, hv, hR⟩⟩
theorem marks_ret0 {P : Program} {fn : Func} {R : Ending → World → Prop} {tmps : Array Value} {w : World} {v : Value}
    (hv : (results fn tmps).run P w = .ok v w) (hR : R (.returned v) w) : bodyPostM Fence.wide 3 P fn R .ret { tmps := tmps, defers := [] } w := ⟨v, hv, hR⟩
theorem put_below {B D : Nat} {w : World} (hD : B ≤ D) (_ : w.heap[D]? = some (.deferred (some []))) (hB : B ≤ w.heap.size) : Below B w (w.putObj D (.deferred none)) :=
  (Below.refl B w).grown (grownBy_putObj' w D (.deferred none)) hB (fun k e => by cases e; exact hD)
theorem put_cell {D : Nat} {w : World} (hK : w.heap[D]? = some (.deferred (some []))) {a : Addr} {v : Value} (h : w.cell? a = some v) : (w.putObj D (.deferred none)).cell? a = some v :=
  cell_kept h (grownBy_putObj' w D (.deferred none)) (fun r e => by cases e; exact ⟨_, hK, rfl⟩)
end Go.Proofs.YtcfgefbkeeedgaaGreat
