/-
  girdlelaw09.LexNumbers' closure: a number's digits.
-/
import Derived.Test.YtcdmojefheipoaaLexnums
namespace Go.Proofs.Ytcdmojefheipoaa
open Go.RowKit

theorem conv_digit (d : Nat) (hd : d ≤ 9) (w : World) : (convert 38 9 (.slice (some ⟨w.heap.size, 0, none⟩) 1 1)).run Try.prog (w.alloc (.cells #[.int .u8 (48 + (d : Int))] 5)) = .ok (.string ⟨#[UInt8.ofNat (48 + d)]⟩) (w.alloc (.cells #[.int .u8 (48 + (d : Int))] 5)) := by
  exact run_convert_bytes_back (P := Try.prog) (w.alloc (.cells #[.int .u8 (48 + (d : Int))] 5)) 38 9 5 ⟨w.heap.size, 0, none⟩ 1 [UInt8.ofNat (48 + d)] Try.underlying38 Try.underlying5 Try.underlying9 (fun j hj => by
    have hj0 : j = 0 := by simpa using hj
    subst hj0
    have e : (⟨w.heap.size, 0, none⟩ : Addr).add 0 = ⟨w.heap.size, 0, none⟩ := by simp [Addr.add]
    rw [e, World.cell?_alloc_new]
    simp
    omega)
/-- Some decimal digits, so many. -/
def DigS (o : ByteArray) (i : Nat) : Prop := (bs o).length = i ∧ ∀ c, c ∈ bs o → ∃ k : Fin 10, c = 48 + k.val
theorem DigS.cons {o : ByteArray} {i m : Nat} (h : DigS o i) : DigS (⟨#[48 + UInt8.ofNat (m % 10)]⟩ ++ o) (i + 1) := by
  have e0 : (48 + UInt8.ofNat (m % 10)).toNat = 48 + m % 10 := by simp; omega
  have e : bs (⟨#[48 + UInt8.ofNat (m % 10)]⟩ ++ o) = (48 + m % 10) :: bs o := by
    unfold bs
    rw [ByteArray.data_append, ← e0]
    simp
  refine ⟨by rw [e, List.length_cons, h.1], fun c hc => ?_⟩
  rw [e] at hc
  rcases List.mem_cons.1 hc with rfl | hc
  · exact ⟨⟨m % 10, by omega⟩, rfl⟩
  · exact h.2 c hc
/-- Some digits, no more than twenty. -/
def Dig20 (o : ByteArray) : Prop := ∃ i, DigS o i ∧ 1 ≤ i ∧ i ≤ 20
set_option maxRecDepth 100000 in
set_option maxHeartbeats 4000000 in
theorem digits_any (n : Nat) (w : World) (hn : n < 18446744073709551616) :
    Calls Try.prog 14 #[.int .u64 n] w fun e w' => (∃ o, e = .returned (.string o) ∧ Dig20 o) ∧ Below w.heap.size w w' := by
  have hB := Below.refl w.heap.size w
  go_enter Try.func14, Try.ntmps14
  go_wp2_with fail
  go_loopw [0, 3, 4] (fun nv sv iv wr => ∃ (m i : Nat) (o : ByteArray), nv = .int .u64 m ∧ sv = .string o ∧ iv = .int .i64 i ∧ m < 18446744073709551616 ∧ i ≤ 20 ∧ Hid (DigS o i) ∧ Below w.heap.size w wr) (fun _ _ iv _ => 20 - (intOf iv).toNat)
  case atStart => exact ⟨n, 0, ⟨#[]⟩, rfl, rfl, rfl, hn, by omega, ⟨rfl, fun c hc => by simp [bs] at hc⟩, hB⟩
  case round =>
    clear hB hn
    obtain ⟨m, i, o, rfl, rfl, rfl, hm, hi, hd, hB⟩ := hrel
    by_cases h : i < 20
    · have h' : (i : Int) < 20 := by omega
      have hcv := conv_digit (m % 10) (by omega) wr
      rw [show ((m % 10 : Nat) : Int) = (m : Int) % 10 by omega] at hcv
      have hos : o.size = i := by rw [← bs_len]; exact hd.out.1
      have hob : (⟨#[48 + UInt8.ofNat (m % 10)]⟩ : ByteArray).size + o.size ≤ 9223372036854775807 := by
        show 1 + o.size ≤ _
        omega
      have hob2 : 1 + o.size ≤ 9223372036854775807 := by omega
      have hD := Lib.hid (hd.out.cons (m := m))
      have hadd : IntKind.i64.wrap ((i : Int) + 1) = ((i + 1 : Nat) : Int) := by
        rw [show (i : Int) + 1 = ((i + 1 : Nat) : Int) by omega]
        exact wrap_num (by omega) (by omega)
      have hB1 := hB.alloc hB.size (.cells #[.int .u8 (48 + (m : Int) % 10)] 5)
      by_cases h0 : m / 10 = 0
      · have hz : (((m : Int) / 10) == 0) = true := by rw [beq_iff_eq]; omega
        go_wp2_with fail
        exact bodyPost_ret (v := .string (⟨#[48 + UInt8.ofNat (m % 10)]⟩ ++ o)) (by simp [results, Try.f14, go_sem]) rfl ⟨⟨_, rfl, i + 1, hD.out, by omega, by omega⟩, hB1⟩
      · have hz : (((m : Int) / 10) == 0) = false := by rw [beq_eq_false_iff_ne]; omega
        go_wp2_with fail
        exact ⟨⟨m / 10, i + 1, _, by rw [show ((m / 10 : Nat) : Int) = (m : Int) / 10 by omega], rfl, rfl, by omega, by omega, hD, hB1⟩, by simp [intOf]; omega⟩
    · have h' : ¬ (i : Int) < 20 := by omega
      go_wp2_with fail
      exact bodyPost_ret (v := .string o) (by simp [results, Try.f14, go_sem]) rfl ⟨⟨o, rfl, i, hd.out, by omega, by omega⟩, hB⟩

end Go.Proofs.Ytcdmojefheipoaa
