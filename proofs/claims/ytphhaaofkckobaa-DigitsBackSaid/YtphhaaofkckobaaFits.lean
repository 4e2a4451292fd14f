/-
  What the calls of limbs answer where the answer has room.
-/
import Derived.Test.YtphhaaofkckobaaLeft
import Derived.Test.YtphhaaofkckobaaRight
import Derived.Test.YtphhaaofkckobaaMul
import Derived.Test.YtphhaaofkckobaaAdd
import Derived.Test.YtphhaaofkckobaaCmp
import Derived.Test.YtphhaaofkckobaaDiv
namespace Go.Proofs.Ytphhaaofkckobaa
open Go.RowKit

theorem lt_maxN {m : Nat} (h : m < 340282366920938463463374607431768211456) : m < maxN := by
  have h1 := Nat.pow_le_pow_right (n := 4294967296) (show 0 < 4294967296 by decide) (show 4 ≤ 512 by decide)
  have h2 : (4294967296 : Nat) ^ 4 = 340282366920938463463374607431768211456 := by decide
  unfold maxN
  omega

theorem IsNat.digs {w : World} {v : Value} {m : Nat} (h : IsNat w v m) (ds : List Nat) (hc : Can 4294967296 ds) (hv : val 4294967296 ds = m) : Nums .u32 w v ds := by
  obtain ⟨es, hn, hc', hv'⟩ := h
  rw [← Can.uniq (by decide) hc' hc (hv'.trans hv.symm)]
  exact hn

theorem IsNat.eq {w : World} {v : Value} {m n : Nat} (h : IsNat w v m) (e : m = n) : IsNat w v n := e ▸ h

theorem add_fit {va vb : Value} {m n : Nat} {w : World} (ha : IsNat w va m) (hb : IsNat w vb n) (h : m + n < maxN) :
    Calls Try.prog 59 #[va, vb] w fun e w' => (∃ v, e = .returned (.tuple #[v, .int .i64 0]) ∧ IsNat w' v (m + n)) ∧ Below w.heap.size w w' :=
  (add_any ha hb (by omega) (by omega)).mono fun e w' ⟨⟨v, c, he, hf⟩, hB⟩ => by
    obtain ⟨rfl, hn⟩ := hf.1 h
    exact ⟨⟨v, he, hn⟩, hB⟩

theorem mul_fit {va vb : Value} {m n : Nat} {w : World} (ha : IsNat w va m) (hb : IsNat w vb n) (hm : m < maxN) (hn : n < maxN) (h : m * n < maxN) :
    Calls Try.prog 22 #[va, vb] w fun e w' => (∃ v, e = .returned (.tuple #[v, .int .i64 0]) ∧ IsNat w' v (m * n)) ∧ Below w.heap.size w w' :=
  (mul_any ha hb hm hn).mono fun e w' ⟨⟨v, c, he, hf⟩, hB⟩ => by
    obtain ⟨rfl, hn⟩ := hf.1 h
    exact ⟨⟨v, he, hn⟩, hB⟩

theorem left_fit {va : Value} {m : Nat} {w : World} (ha : IsNat w va m) (hm : m < maxN) (n : Nat) (hn : n ≤ 9223372036854775807) (h : m * 2 ^ n < maxN) :
    Calls Try.prog 29 #[va, .int .i64 n] w fun e w' => (∃ v, e = .returned (.tuple #[v, .int .i64 0]) ∧ IsNat w' v (m * 2 ^ n)) ∧ Below w.heap.size w w' :=
  (left_any ha hm n hn).mono fun e w' ⟨⟨v, c, he, hf⟩, hB⟩ => by
    obtain ⟨rfl, hn⟩ := hf.1 h
    exact ⟨⟨v, he, hn⟩, hB⟩

theorem small_fit {va : Value} {m : Nat} {w : World} (ha : IsNat w va m) (hm : m < 18446744073709551616) : Calls Try.prog 58 #[va] w fun e w' => e = .returned (.tuple #[.int .u64 m, .int .i64 0]) ∧ Below w.heap.size w w' :=
  (small_any ha (lt_maxN (by omega))).mono fun e w' ⟨h, hB⟩ => ⟨h.elim (fun h => h.2) (fun h => by omega), hB⟩

theorem div_fit {va vb : Value} {m n : Nat} {w : World} (hlong : LongAns n) (ha : IsNat w va m) (hb : IsNat w vb n) (hm : m < maxN) (hn : n < maxN) (h0 : 0 < n) :
    Calls Try.prog 24 #[va, vb] w fun e w' => (∃ v1 v2, e = .returned (.tuple #[v1, v2, .int .i64 0]) ∧ IsNat w' v1 (m / n) ∧ IsNat w' v2 (m % n)) ∧ Below w.heap.size w w' :=
  (div_of hlong ha hb hm hn).mono fun e w' ⟨⟨v1, v2, c, he, hf⟩, hB⟩ => by
    obtain ⟨rfl, h1, h2⟩ := hf.2 h0
    exact ⟨⟨v1, v2, he, h1, h2⟩, hB⟩

theorem div_nil {va vb : Value} {m : Nat} {w : World} (ha : IsNat w va m) (hb : IsNat w vb 0) (hm : m < maxN) :
    Calls Try.prog 24 #[va, vb] w fun e w' => e = .returned (.tuple #[.slice none 0 0, .slice none 0 0, .int .i64 10]) ∧ Below w.heap.size w w' :=
  (div_of (fun h => by omega) ha hb hm (lt_maxN (by decide))).mono fun e w' ⟨⟨v1, v2, c, he, hf⟩, hB⟩ => by
    obtain ⟨rfl, rfl, rfl⟩ := hf.1 rfl
    exact ⟨he, hB⟩

theorem small_over {va : Value} {m : Nat} {w : World} (ha : IsNat w va m) (hm : m < maxN) (h : 18446744073709551616 ≤ m) : Calls Try.prog 58 #[va] w fun e w' => e = .returned (.tuple #[.int .u64 0, .int .i64 11]) ∧ Below w.heap.size w w' :=
  (small_any ha hm).mono fun e w' ⟨h1, hB⟩ => ⟨h1.elim (fun h1 => by omega) (fun h1 => h1.2), hB⟩

end Go.Proofs.Ytphhaaofkckobaa
