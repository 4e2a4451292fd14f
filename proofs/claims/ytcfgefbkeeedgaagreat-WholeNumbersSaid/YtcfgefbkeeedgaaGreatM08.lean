/-
  What the statement stands on.
-/
import Derived.Test.YtcfgefbkeeedgaaGreatM01
import Derived.Test.YtcfgefbkeeedgaaGreatProg
namespace Go.Proofs.YtcfgefbkeeedgaaGreat
open Go.RowKit
section
attribute [local go_sem] Oper.semAt_some
set_option maxRecDepth 100000 in
set_option maxHeartbeats 1000000 in
theorem down1_is (n Bs b off len cap : Nat) (d : Nat → Int) (hlen : len ≤ 4611686018427387904) (I : Nat → World → Prop)
    (hIc : ∀ k W, I k W → W.cell? ⟨Bs, 0, none⟩ = some (.slice (some ⟨b, off, none⟩) len cap) ∧ (k < len → W.cell? ⟨b, off + (len - 1 - k), none⟩ = some (.int .u32 (d (len - 1 - k))))) :
    SeqIs n Tryz.prog 89 #[.pointer (some ⟨Bs, 0, none⟩)] len (fun k => #[.int .i64 ((len - 1 - k : Nat) : Int), .int .u32 (d (len - 1 - k))]) I := by
  intro l J Jx W hJ h0 hY
  refine callsIn_of_wp Tryz.func89 rfl trivial ?_ rfl
  simp only [Tryz.ntmps89, List.size_toArray, List.length_cons, List.length_nil, Nat.reduceAdd, Nat.reduceSub, Array.replicate_succ, Array.replicate_zero, List.push_toArray, List.append_toArray, List.nil_append, List.cons_append]
  have hb0 := (hIc 0 W (hJ 0 W h0)).1
  gi_wp2
  gi_loopw [3] (fun i wr => ∃ m : Nat, m ≤ len ∧ i = .int .i64 ((m : Int) - 1) ∧ J (len - m) wr) (fun i _ => (intOf i + 1).toNat)
  case atStart => exact ⟨len, Nat.le_refl _, rfl, by simpa using h0⟩
  case round =>
    obtain ⟨m, hm, rfl, hJm⟩ := hrel
    obtain ⟨hbs, hcell⟩ := hIc _ _ (hJ _ _ hJm)
    cases m with
    | zero =>
      gi_wp2
      go_end0
      exact ⟨⟨_, rfl⟩, .inl (by simpa using hJm)⟩
    | succ j =>
      have hlt : len - (j + 1) < len := by omega
      have hj : len - 1 - (len - (j + 1)) = j := by omega
      have hc := hcell hlt
      rw [hj] at hc
      obtain ⟨fn, tmps, assign, body, hy, hR⟩ := hY _ wr hlt hJm
      rw [hj] at hy
      rw [show len - (j + 1) + 1 = len - j by omega] at hR
      rw [show ((j + 1 : Nat) : Int) - 1 = (j : Int) by omega]
      clear hj hcell hlt hb0
      have hjb : (j : Int) < len := by omega
      gi_wp2
      refine hR.mono ?_
      rintro e W3 (⟨rfl, hJ3⟩ | ⟨rfl, hJx3⟩)
      · gi_wp2
        go_roundw
        case rel => exact ⟨j, by omega, rfl, hJ3⟩
        case measure => simp [intOf]
      · gi_wp2
        refine bodyPost_ret (results_none rfl _ _ _) rfl ?_
        exact ⟨⟨_, rfl⟩, .inr ⟨_, by omega, hJx3⟩⟩
theorem down1_nil (n Bs : Nat) (p : Option Addr) (K : Nat) (I : Nat → World → Prop) (xs : Nat → Array Value) (hIc : ∀ W, I 0 W → W.cell? ⟨Bs, 0, none⟩ = some (.slice p 0 K)) :
    SeqIs n Tryz.prog 89 #[.pointer (some ⟨Bs, 0, none⟩)] 0 xs I := by
  intro l J Jx W hJ h0 hY
  refine callsIn_of_wp Tryz.func89 rfl trivial ?_ rfl
  simp only [Tryz.ntmps89, List.size_toArray, List.length_cons, List.length_nil, Nat.reduceAdd, Nat.reduceSub, Array.replicate_succ, Array.replicate_zero, List.push_toArray, List.append_toArray, List.nil_append, List.cons_append]
  have hb0 := hIc W (hJ 0 W h0)
  gi_wp2
  gi_loopw [3] (fun i wr => i = .int .i64 (-1) ∧ J 0 wr) (fun _ _ => 0)
  case atStart => exact ⟨rfl, h0⟩
  case round =>
    obtain ⟨rfl, hJm⟩ := hrel
    gi_wp2
    go_end0
    exact ⟨⟨_, rfl⟩, .inl hJm⟩
theorem down_any (a : Option Addr) (len cap : Nat) (w : World) :
    Calls Tryz.prog 63 #[.slice a len cap] w fun e w' => e = .returned (.func (.func 89) #[] #[.pointer (some ⟨w.heap.size, 0, none⟩)]) ∧ w' = w.alloc (.cells #[.slice a len cap] 35) := by
  go_enter Tryz.func63, Tryz.ntmps63
  go_wp2
  go_ret
  exact ⟨rfl, rfl⟩
end
end Go.Proofs.YtcfgefbkeeedgaaGreat
