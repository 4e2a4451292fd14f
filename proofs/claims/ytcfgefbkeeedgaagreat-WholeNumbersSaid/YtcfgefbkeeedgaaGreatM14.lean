/-
  What the statement stands on.
-/
import Derived.Test.YtcfgefbkeeedgaaGreatM01
import Derived.StillTailTactics
import Derived.OrdersIn
import Derived.Deep.RegionHeld3
namespace Go.Proofs.YtcfgefbkeeedgaaGreat
open Go.RowKit
section
variable {P : Program} {ops : Array Oper} {md : Region.Mode} {w : World} {Q : Exit → Act → World → Prop} {l n : Nat}
theorem wpIn_of_wp_round {o : Oper} {a : Act} {K : Act → World → Prop} (ho : ∀ c, o.op ≠ .defer c) (hQ : ∀ a w, ¬ Q .outgrown a w)
    (h : o.wp P a w K Q ∨ (o.asks P a w ∧ LetsOut Q)) : o.wpIn (Fence.wide.inRound l) n P a w K Q := by
  rcases h with h | ⟨_, a', w', h⟩
  · refine ⟨fun _ _ => trivial, ?_⟩
    rw [show (Fence.wide.inRound l).round = some l from rfl, Oper.semAt_some l a.eval o ho]
    unfold Oper.wp at h
    generalize (execOp a.eval o).run P w = r at *
    cases r with
    | ok x w' =>
      cases x with
      | enter f args =>
        exact ⟨fun hd => by simp [Fence.wide] at hd, (callsIn_wide.2 h : CallsIn Fence.wide (n - 1) P f args w' _)⟩
      | row row args =>
        refine ⟨fun hd => by simp [Fence.wide] at hd, fun c cs hr => ?_⟩
        obtain ⟨v, w'', hq, hs⟩ := h c cs
        exact ⟨v, w'', hq, stepsIn_wide.2 hs⟩
      | value v => exact h
      | skip => exact h
      | defer d => exact h
      | _ => exact h.elim
    | halt x w' =>
      cases x with
      | panic v => exact h
      | _ => exact h.elim
  · exact (hQ _ _ h).elim
theorem wpOpIn_mono' {K K' : Act → World → Prop} {F : Fence} {i : Nat} {a : Act} (hK : ∀ a w, K a w → K' a w) (h : wpOpIn F n P ops Q i K a w) : wpOpIn F n P ops Q i K' a w := by
  unfold wpOpIn at *
  split at h
  · exact hK _ _ h
  · split at h
    · rename_i hw; rw [if_pos hw]; exact Oper.wpIn_mono hK h
    · rename_i hw; rw [if_neg hw]; exact ⟨h.1, hK _ _ h.2⟩
theorem wpAnyIn_round (hops : ∀ (i : Nat) (o : Oper), ops[i]? = some o → ∀ c, o.op ≠ .defer c) (hQ : ∀ a w, ¬ Q .outgrown a w) :
    ∀ (k : Nat) (listed : Array Bool) (a : Act) (w : World), wpAny P md ops Q k listed a w → wpAnyIn (Fence.wide.inRound l) n P md ops Q k listed a w
  | 0, _, _, _, h => h
  | k + 1, listed, a, w, h => by
    refine ⟨h.1, fun i hi => ?_⟩
    have h1 := h.2 i hi
    have h2 : wpOpIn (Fence.wide.inRound l) n P ops Q i (wpAny P md ops Q k (listed.setIfInBounds i true)) a w := by
      unfold wpOp at h1
      unfold wpOpIn
      cases ho : ops[i]? with
      | none => simp only [ho] at h1 ⊢; exact h1
      | some o =>
        simp only [ho] at h1 ⊢
        split at h1
        · rename_i hw; rw [if_pos hw]; exact wpIn_of_wp_round (hops i o ho) hQ h1
        · rename_i hw; rw [if_neg hw]; exact ⟨fun _ _ => trivial, h1⟩
    exact wpOpIn_mono' (fun a' w' h' => wpAnyIn_round hops hQ k _ a' w' h') h2
def noDefer (L : List Oper) : Bool := L.all fun o => match o.op with | .defer _ => false | _ => true
theorem noDefer_spec {L : List Oper} (h : noDefer L = true) (i : Nat) (o : Oper) (ho : L.toArray[i]? = some o) (c : Call) : o.op ≠ .defer c := by
  intro e
  have h1 := List.all_eq_true.1 h o (List.mem_of_getElem? (by simpa using ho))
  rw [e] at h1
  cases h1
theorem round_held {id : Nat} {a : Act} {L : List Oper} (S : World → Prop) (hm : P.follows .mixedOrders = true) (hops : noDefer L = true) (hQ : ∀ a w, ¬ Q .outgrown a w) (hS : S w.drew)
    (h : S w.drew → wpAnyH P .any L.toArray Q S L.toArray.size (Array.replicate L.toArray.size false) a w.drew) : (Code.region id L.toArray true).wpIn (Fence.wide.inRound l) n P Q a w :=
  wpIn_region_any hm (wpAnyIn_round (noDefer_spec hops) hQ _ _ _ _ (wpAny_of_held _ _ _ _ (h hS)))
theorem round_still_tail {id : Nat} {a : Act} {L : List Oper} (k : Nat) (hm : P.follows .mixedOrders = true) (hB : Region.lexTailB .any L.toArray k = true) (hops : noDefer L = true) (hQ : ∀ a w, ¬ Q .outgrown a w)
    (h : wpStill P L.toArray { w with drawn := w.drawn + 1 } (fun a' => wpList P L.toArray Q (L.drop k) a' { w with drawn := w.drawn + 1 }) (L.take k) a) : (Code.region id L.toArray true).wpIn (Fence.wide.inRound l) n P Q a w := by
  simp only [Region.lexTailB, Bool.and_eq_true, decide_eq_true_eq] at hB
  obtain ⟨⟨⟨⟨hsel, hk⟩, hs⟩, hc⟩, hlex⟩ := hB
  have hk' : k < L.length := by simpa using hk
  have htl : (L.take k).length = k := by simp; omega
  have hdl : (L.drop k).length = L.toArray.size - k := by simp
  refine wpIn_region_any hm (wpAnyIn_round (noDefer_spec hops) hQ _ _ _ _ ?_)
  have hstart : HeadInv .any L.toArray k (Array.replicate L.toArray.size false) :=
    ⟨by simp, fun j oj _ hl => (by rw [getD_replicate_false] at hl; cases hl), fun t _ ht => getD_in (by simpa using ht) (getD_replicate_false _ _)⟩
  have hhead := wpAnyL_lex (md := .any) (g := L.toArray.size - k) hsel hs hc hk (L.take k) 0 _ a (fun j hj => by rw [htl] at hj; simp [hj]) (by simpa using htl) hstart (by rw [htl]; exact hlex) h
  have hall := wpAny_of_head (Q' := Q) (g := L.toArray.size - k) (fun listed a' hL => by
    have := wpAny_of_seq (md := .any) (Q' := Q) (L.drop k) k listed a' { w with drawn := w.drawn + 1 } (fun j => by simp [List.getElem?_drop]) (by rw [hdl]; exact hL.1) hL.2
    rwa [hdl] at this) _ _ _ hhead
  rwa [htl, show k + (L.toArray.size - k) = L.toArray.size by omega] at hall
end
end Go.Proofs.YtcfgefbkeeedgaaGreat
