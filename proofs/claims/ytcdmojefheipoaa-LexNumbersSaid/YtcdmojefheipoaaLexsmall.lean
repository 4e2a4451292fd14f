/-
  strings.HasPrefix; lex.among, leftOut.
-/
import Derived.Test.YtcdmojefheipoaaLexrun
namespace Go.Proofs.Ytcdmojefheipoaa
open Go.RowKit

theorem wrap_num {z : Int} (h0 : -9223372036854775808 ≤ z) (h1 : z ≤ 9223372036854775807) : IntKind.i64.wrap z = z := by
  rw [show ∀ y, IntKind.i64.wrap y = (y + 9223372036854775808) % 18446744073709551616 - 9223372036854775808 from fun y => by simp [IntKind.wrap, IntKind.bits, IntKind.signed]; omega]
  omega

theorem bs_cut (s : ByteArray) (a b : Nat) : bs (s.extract a b) = ((bs s).drop a).take (b - a) := by
  unfold bs
  rw [← Lib.toList_data, Lib.extract_toList]
  simp [List.map_drop, List.map_take, List.drop_take]
theorem bs_drop (s : ByteArray) (a : Nat) : bs (s.extract a s.size) = (bs s).drop a := by
  rw [bs_cut, List.take_of_length_le]
  rw [List.length_drop, bs_len]; exact Nat.le_refl _
theorem list_bs (s p : ByteArray) : (s.toList == p.toList) = decide (bs s = bs p) := by
  rw [Bool.eq_iff_iff]
  simp only [beq_iff_eq, decide_eq_true_eq]
  constructor
  · intro h
    unfold bs
    rw [← Lib.toList_data, ← Lib.toList_data, h]
  · intro h
    rw [bs_inj h]
set_option maxRecDepth 100000 in
theorem hasPreIn_any (s p : ByteArray) (w : World) (b : Bool) (h : decide ((bs s).take p.size = bs p) = b) :
    Calls Try.prog 19 #[.string s, .string p] w fun e w' => e = .returned (.bool b) ∧ w' = w := by
  by_cases h0 : p.size ≤ s.size
  · have h1 : (p.size : Int) ≤ (s.size : Int) := by omega
    have h2 : (0 : Int) ≤ (p.size : Int) := by omega
    have hd : ((s.extract 0 p.size).toList == p.toList) = b := by
      rw [list_bs, bs_cut, List.drop_zero, Nat.sub_zero]; exact h
    clear h
    go_enter Try.func19, Try.ntmps19
    go_wp2
    go_ret
    first | exact ⟨rfl, rfl⟩ | exact ⟨by rw [hd], rfl⟩
  · have h1 : ¬ (p.size : Int) ≤ (s.size : Int) := by omega
    have hb : b = false := by
      rw [← h]
      refine decide_eq_false fun e => ?_
      have := congrArg List.length e
      rw [List.length_take, bs_len, bs_len] at this
      omega
    subst hb
    clear h h0
    go_enter Try.func19, Try.ntmps19
    go_wp2
    go_ret
    exact ⟨rfl, rfl⟩
set_option maxRecDepth 100000 in
theorem hasPre_any (s p : ByteArray) (w : World) (b : Bool) (h : decide ((bs s).take p.size = bs p) = b) :
    Calls Try.prog 10 #[.string s, .string p] w fun e w' => e = .returned (.bool b) ∧ w' = w := by
  have H := Lib.hid (hasPreIn_any s p w b h)
  clear h
  go_enter Try.func10, Try.ntmps10
  go_wp2_with (go_at_call 19; refine H.out.mono ?_; rintro e w1 ⟨rfl, rfl⟩)
  go_ret
  exact ⟨rfl, rfl⟩
set_option maxRecDepth 100000 in
theorem among_any (sort : ByteArray) (w : World) :
    Calls Try.prog 29 #[.string sort] w fun e w' => e = .returned (.func (.func 37) #[] #[.pointer (some ⟨w.heap.size, 0, none⟩)]) ∧ w' = w.alloc (.cells #[.string sort] 9) := by
  have hmf : ∀ (fn : Fn) (first cap : Array Value) (w : World), (Instr.makeFunc fn first cap).run Try.prog w = .ok (.func fn first cap) w := fun _ _ _ _ => rfl
  go_enter Try.func29, Try.ntmps29
  go_wp2
  go_ret
  exact ⟨rfl, rfl⟩

end Go.Proofs.Ytcdmojefheipoaa
