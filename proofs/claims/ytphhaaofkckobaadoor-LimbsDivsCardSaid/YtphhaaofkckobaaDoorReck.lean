/-
  girdlelaw01.reckons: some small numbers, reckoned through.
-/
import Derived.Test.YtphhaaofkckobaaDoorFit
import Derived.Test.YtphhaaofkckobaaDoorLeft
import Derived.Test.YtphhaaofkckobaaDoorRight
import Derived.Test.YtphhaaofkckobaaDoorMul
import Derived.Test.YtphhaaofkckobaaDoorSub
import Derived.Test.YtphhaaofkckobaaDoorTail
namespace Go.Proofs.YtphhaaofkckobaaDoor
open Go.RowKit

theorem lt_maxN {m : Nat} (h : m < 340282366920938463463374607431768211456) : m < maxN := by
  have h1 := Nat.pow_le_pow_right (n := 4294967296) (show 0 < 4294967296 by decide) (show 4 ≤ 512 by decide)
  have h2 : (4294967296 : Nat) ^ 4 = 340282366920938463463374607431768211456 := by decide
  unfold maxN
  omega

theorem IsNat.digs {w : World} {v : Value} {m : Nat} (h : IsNat w v m) (ds : List Nat) (hc : Can 4294967296 ds) (hv : val 4294967296 ds = m) : Nums .u32 w v ds := by
  obtain ⟨es, hn, hc', hv'⟩ := h
  rw [← Can.uniq (by decide) hc' hc (hv'.trans hv.symm)]
  exact hn

theorem IsNat.eq {w : World} {v : Value} {m n : Nat} (h : IsNat w v m) (e : m = n) : IsNat w v n := e ▸ h

theorem add_fit {va vb : Value} {m n : Nat} {w : World} (ha : IsNat w va m) (hb : IsNat w vb n) (h : m + n < maxN) :
    Calls Tryd.prog 14 #[va, vb] w fun e w' => (∃ v, e = .returned (.tuple #[v, .int .i64 0]) ∧ IsNat w' v (m + n)) ∧ Below w.heap.size w w' :=
  (add_any ha hb (by omega) (by omega)).mono fun e w' ⟨⟨v, c, he, hf⟩, hB⟩ => by
    obtain ⟨rfl, hn⟩ := hf.1 h
    exact ⟨⟨v, he, hn⟩, hB⟩

theorem mul_fit {va vb : Value} {m n : Nat} {w : World} (ha : IsNat w va m) (hb : IsNat w vb n) (hm : m < maxN) (hn : n < maxN) (h : m * n < maxN) :
    Calls Tryd.prog 20 #[va, vb] w fun e w' => (∃ v, e = .returned (.tuple #[v, .int .i64 0]) ∧ IsNat w' v (m * n)) ∧ Below w.heap.size w w' :=
  (mul_any ha hb hm hn).mono fun e w' ⟨⟨v, c, he, hf⟩, hB⟩ => by
    obtain ⟨rfl, hn⟩ := hf.1 h
    exact ⟨⟨v, he, hn⟩, hB⟩

theorem sub_fit {va vb : Value} {m n : Nat} {w : World} (ha : IsNat w va m) (hb : IsNat w vb n) (hm : m < maxN) (h : n ≤ m) :
    Calls Tryd.prog 17 #[va, vb] w fun e w' => (∃ v, e = .returned (.tuple #[v, .int .i64 0]) ∧ IsNat w' v (m - n)) ∧ Below w.heap.size w w' :=
  (sub_any ha hb hm (by omega)).mono fun e w' ⟨⟨v, c, he, hf⟩, hB⟩ => by
    obtain ⟨rfl, hn⟩ := hf.1 h
    exact ⟨⟨v, he, hn⟩, hB⟩

theorem sub_less {va vb : Value} {m n : Nat} {w : World} (ha : IsNat w va m) (hb : IsNat w vb n) (hn : n < maxN) (h : m < n) :
    Calls Tryd.prog 17 #[va, vb] w fun e w' => e = .returned (.tuple #[.slice none 0 0, .int .i64 12]) ∧ Below w.heap.size w w' :=
  (sub_any ha hb (by omega) hn).mono fun e w' ⟨⟨v, c, he, hf⟩, hB⟩ => by
    obtain ⟨rfl, rfl⟩ := hf.2 h
    exact ⟨he, hB⟩

theorem left_fit {va : Value} {m : Nat} {w : World} (ha : IsNat w va m) (hm : m < maxN) (n : Nat) (hn : n ≤ 9223372036854775807) (h : m * 2 ^ n < maxN) :
    Calls Tryd.prog 26 #[va, .int .i64 n] w fun e w' => (∃ v, e = .returned (.tuple #[v, .int .i64 0]) ∧ IsNat w' v (m * 2 ^ n)) ∧ Below w.heap.size w w' :=
  (left_any ha hm n hn).mono fun e w' ⟨⟨v, c, he, hf⟩, hB⟩ => by
    obtain ⟨rfl, hn⟩ := hf.1 h
    exact ⟨⟨v, he, hn⟩, hB⟩

theorem small_fit {va : Value} {m : Nat} {w : World} (ha : IsNat w va m) (hm : m < 18446744073709551616) : Calls Tryd.prog 32 #[va] w fun e w' => e = .returned (.tuple #[.int .u64 m, .int .i64 0]) ∧ Below w.heap.size w w' :=
  (small_any ha (lt_maxN (by omega))).mono fun e w' ⟨h, hB⟩ => ⟨h.elim (fun h => h.2) (fun h => by omega), hB⟩

theorem div_fit {va vb : Value} {m n : Nat} {w : World} (hlong : LongAns n) (ha : IsNat w va m) (hb : IsNat w vb n) (hm : m < maxN) (hn : n < maxN) (h0 : 0 < n) :
    Calls Tryd.prog 23 #[va, vb] w fun e w' => (∃ v1 v2, e = .returned (.tuple #[v1, v2, .int .i64 0]) ∧ IsNat w' v1 (m / n) ∧ IsNat w' v2 (m % n)) ∧ Below w.heap.size w w' :=
  (div_of hlong ha hb hm hn).mono fun e w' ⟨⟨v1, v2, c, he, hf⟩, hB⟩ => by
    obtain ⟨rfl, h1, h2⟩ := hf.2 h0
    exact ⟨⟨v1, v2, he, h1, h2⟩, hB⟩

theorem div_nil {va vb : Value} {m : Nat} {w : World} (ha : IsNat w va m) (hb : IsNat w vb 0) (hm : m < maxN) :
    Calls Tryd.prog 23 #[va, vb] w fun e w' => e = .returned (.tuple #[.slice none 0 0, .slice none 0 0, .int .i64 10]) ∧ Below w.heap.size w w' :=
  (div_of (fun h => by omega) ha hb hm (lt_maxN (by decide))).mono fun e w' ⟨⟨v1, v2, c, he, hf⟩, hB⟩ => by
    obtain ⟨rfl, rfl, rfl⟩ := hf.1 rfl
    exact ⟨he, hB⟩

theorem two_odd {t s m : Nat} (h : 2 ^ s = 2 ^ t * (2 * m + 1)) : t = s := by
  rcases Nat.lt_trichotomy t s with h1 | h1 | h1
  · have e : 2 ^ s = 2 ^ t * (2 * 2 ^ (s - t - 1)) := by rw [← Nat.pow_succ', ← Nat.pow_add]; congr 1; omega
    rw [e] at h
    have := Nat.eq_of_mul_eq_mul_left (Nat.pow_pos (by decide)) h
    omega
  · exact h1
  · have e : 2 ^ t = 2 ^ s * (2 * 2 ^ (t - s - 1)) := by rw [← Nat.pow_succ', ← Nat.pow_add]; congr 1; omega
    rw [e, Nat.mul_assoc] at h
    have h2 : (2 : Nat) ^ s * 1 = 2 ^ s * (2 * 2 ^ (t - s - 1) * (2 * m + 1)) := by rw [Nat.mul_one]; exact h
    have := Nat.eq_of_mul_eq_mul_left (Nat.pow_pos (by decide)) h2
    rw [Nat.mul_assoc] at this
    omega

theorem can01 : Can 4294967296 [0, 1] := ⟨fun x hx => by simp at hx; omega, rfl⟩
theorem can001 : Can 4294967296 [0, 0, 1] := ⟨fun x hx => by simp at hx; omega, rfl⟩
theorem can2 : Can 4294967296 [2] := ⟨fun x hx => by simp at hx; omega, rfl⟩
theorem can1 : Can 4294967296 [1] := ⟨fun x hx => by simp at hx; omega, rfl⟩
theorem canq : Can 4294967296 [2454267026, 613566756] := ⟨fun x hx => by simp at hx; omega, rfl⟩

set_option maxRecDepth 100000 in
set_option maxHeartbeats 2000000 in
theorem reckons_any (w : World) (hT : Tab w) : Calls Tryd.prog 11 #[] w fun e w' => e = .returned (.bool true) ∧ Below w.heap.size w w' := by
  have O1 := Lib.hid (show ∀ W, Calls Tryd.prog 33 #[.int .u64 1] W fun e w' => (∃ v, e = .returned v ∧ IsNat w' v 1) ∧ Below W.heap.size W w' from fun W => of_any 1 W (by decide))
  have O7 := Lib.hid (show ∀ W, Calls Tryd.prog 33 #[.int .u64 7] W fun e w' => (∃ v, e = .returned v ∧ IsNat w' v 7) ∧ Below W.heap.size W w' from fun W => of_any 7 W (by decide))
  have OM := Lib.hid (show ∀ W, Calls Tryd.prog 33 #[.int .u64 4294967295] W fun e w' => (∃ v, e = .returned v ∧ IsNat w' v 4294967295) ∧ Below W.heap.size W w' from fun W => of_any 4294967295 W (by decide))
  have HT := Lib.hid hT
  clear hT
  have hb0 := Below.refl w.heap.size w
  go_enter Tryd.func11, Tryd.ntmps11
  go_wp2_with fail
  refine (OM.out _).mono ?_
  rintro e w1 ⟨⟨v1, rfl, n1⟩, hB⟩
  have hb1 := hb0.trans (hB.mono hb0.size)
  clear hB hb0
  go_wp2_with fail
  refine (O1.out _).mono ?_
  rintro e w2 ⟨⟨v2, rfl, n2⟩, hB⟩
  have hb2 := hb1.trans (hB.mono hb1.size)
  have n1 := n1.below hB (Nat.le_refl _)
  clear hB hb1
  have C := Lib.hid (add_fit n1 n2 (lt_maxN (by decide)))
  clear n1 n2
  go_wp2_with fail
  refine C.out.mono ?_
  clear C
  rintro e w3 ⟨⟨va, rfl, na⟩, hB⟩
  have hb3 := hb2.trans (hB.mono hb2.size)
  clear hB hb2
  obtain ⟨pa, Ka, rfl, ata⟩ : ∃ p K, va = .slice p 2 K ∧ At .u32 w3 p K [0, 1] := na.digs [0, 1] can01 (by decide)
  obtain ⟨ba, oa, rfl, -, -, -⟩ := ata.pos (by decide)
  have na := na.eq (n := 4294967296) (by decide)
  have C := Lib.hid (mul_fit na na (lt_maxN (by decide)) (lt_maxN (by decide)) (lt_maxN (by decide)))
  go_wp2_with fail
  refine C.out.mono ?_
  clear C
  rintro e w4 ⟨⟨vb, rfl, nb⟩, hB⟩
  have na := na.below hB (Nat.le_refl _)
  have ata := ata.below hB (Nat.le_refl _)
  have hb4 := hb3.trans (hB.mono hb3.size)
  clear hB hb3
  obtain ⟨pb, Kb, rfl, atb⟩ : ∃ p K, vb = .slice p 3 K ∧ At .u32 w4 p K [0, 0, 1] := nb.digs [0, 0, 1] can001 (by decide)
  have nb := nb.eq (n := 18446744073709551616) (by decide)
  have C := Lib.hid (O7.out w4)
  go_wp2_with fail
  refine C.out.mono ?_
  clear C
  rintro e w5 ⟨⟨v7, rfl, n7⟩, hB⟩
  have na := na.below hB (Nat.le_refl _)
  have ata := ata.below hB (Nat.le_refl _)
  have nb := nb.below hB (Nat.le_refl _)
  have hb5 := hb4.trans (hB.mono hb4.size)
  clear hB hb4
  have C := Lib.hid (div_fit (fun h => by omega) nb n7 (lt_maxN (by decide)) (lt_maxN (by decide)) (by decide))
  go_wp2_with fail
  refine C.out.mono ?_
  clear C
  rintro e w6 ⟨⟨vq, vr, rfl, nq, nr⟩, hB⟩
  have na := na.below hB (Nat.le_refl _)
  have ata := ata.below hB (Nat.le_refl _)
  have nb := nb.below hB (Nat.le_refl _)
  have hb6 := hb5.trans (hB.mono hb5.size)
  clear hB hb5
  obtain ⟨pq, Kq, rfl, -⟩ : ∃ p K, vq = .slice p 2 K ∧ At .u32 w6 p K [2454267026, 613566756] := nq.digs _ canq (by decide)
  obtain ⟨pr, Kr, rfl, atr⟩ : ∃ p K, vr = .slice p 1 K ∧ At .u32 w6 p K [2] := nr.digs [2] can2 (by decide)
  obtain ⟨br, or, rfl, -, -, -⟩ := atr.pos (by decide)
  clear nq nr
  have C := Lib.hid (O1.out w6)
  go_wp2_with fail
  refine C.out.mono ?_
  clear C
  rintro e w7 ⟨⟨v8, rfl, n8⟩, hB⟩
  have na := na.below hB (Nat.le_refl _)
  have ata := ata.below hB (Nat.le_refl _)
  have nb := nb.below hB (Nat.le_refl _)
  have atr := atr.below hB (Nat.le_refl _)
  have hb7 := hb6.trans (hB.mono hb6.size)
  clear hB hb6
  have C := Lib.hid (sub_fit na n8 (lt_maxN (by decide)) (by decide))
  go_wp2_with fail
  refine C.out.mono ?_
  clear C
  rintro e w8 ⟨⟨vc, rfl, nc⟩, hB⟩
  have na := na.below hB (Nat.le_refl _)
  have ata := ata.below hB (Nat.le_refl _)
  have nb := nb.below hB (Nat.le_refl _)
  have atr := atr.below hB (Nat.le_refl _)
  have hb8 := hb7.trans (hB.mono hb7.size)
  clear hB hb7
  have C := Lib.hid (small_fit nc (by decide))
  go_wp2_with fail
  refine C.out.mono ?_
  clear C
  rintro e w9 ⟨rfl, hB⟩
  have na := na.below hB (Nat.le_refl _)
  have ata := ata.below hB (Nat.le_refl _)
  have nb := nb.below hB (Nat.le_refl _)
  have atr := atr.below hB (Nat.le_refl _)
  have hb9 := hb8.trans (hB.mono hb8.size)
  clear hB hb8
  have C := Lib.hid (div_nil na (IsNat.zero _) (lt_maxN (by decide)))
  go_wp2_with fail
  refine C.out.mono ?_
  clear C
  rintro e w10 ⟨rfl, hB⟩
  have na := na.below hB (Nat.le_refl _)
  have ata := ata.below hB (Nat.le_refl _)
  have nb := nb.below hB (Nat.le_refl _)
  have atr := atr.below hB (Nat.le_refl _)
  have hb10 := hb9.trans (hB.mono hb9.size)
  clear hB hb9
  have C := Lib.hid (sub_less (IsNat.zero _) na (lt_maxN (by decide)) (by decide))
  go_wp2_with fail
  refine C.out.mono ?_
  clear C
  rintro e w11 ⟨rfl, hB⟩
  have na := na.below hB (Nat.le_refl _)
  have ata := ata.below hB (Nat.le_refl _)
  have nb := nb.below hB (Nat.le_refl _)
  have atr := atr.below hB (Nat.le_refl _)
  have hb11 := hb10.trans (hB.mono hb10.size)
  clear hB hb10
  have C := Lib.hid (left_fit na (lt_maxN (by decide)) 5 (by decide) (lt_maxN (by decide)))
  go_wp2_with fail
  refine C.out.mono ?_
  clear C
  rintro e w12 ⟨⟨vl, rfl, nl⟩, hB⟩
  have na := na.below hB (Nat.le_refl _)
  have ata := ata.below hB (Nat.le_refl _)
  have nb := nb.below hB (Nat.le_refl _)
  have atr := atr.below hB (Nat.le_refl _)
  have hb12 := hb11.trans (hB.mono hb11.size)
  clear hB hb11
  have C := Lib.hid (right_any nl (lt_maxN (by decide)) 37 (by decide))
  go_wp2_with fail
  refine C.out.mono ?_
  clear C
  rintro e w13 ⟨⟨vo, rfl, no⟩, hB⟩
  have na := na.below hB (Nat.le_refl _)
  have ata := ata.below hB (Nat.le_refl _)
  have nb := nb.below hB (Nat.le_refl _)
  have atr := atr.below hB (Nat.le_refl _)
  have hb13 := hb12.trans (hB.mono hb12.size)
  clear hB hb12
  obtain ⟨po, Ko, rfl, ato⟩ : ∃ p K, vo = .slice p 1 K ∧ At .u32 w13 p K [1] := no.digs [1] can1 (by decide)
  have ca := ata.pos (by decide)
  obtain ⟨b', o', e, -, -, ca⟩ := ca
  cases e
  have ca1 := ca 1 (by decide)
  obtain ⟨b', o', e, -, -, cr⟩ := atr.pos (by decide)
  cases e
  have cr0 := cr 0 (by decide)
  simp only [dg, List.getElem?_cons_zero, List.getElem?_cons_succ, Option.getD_some, Nat.add_zero] at ca1 cr0
  clear ca cr
  have C0 : Calls Tryd.prog 28 #[.slice pb 3 Kb] w13 fun e w' => e = .returned (.int .i64 65) ∧ Below w13.heap.size w13 w' :=
    (bits_any (nb.digs [0, 0, 1] can001 (by decide)) can001 (by decide)).mono fun e w' h => ⟨h.1.trans (by rw [show bitsOf [0, 0, 1] = 65 by decide]; rfl), h.2⟩
  have C := Lib.hid C0
  clear C0
  go_wp2_with fail
  refine C.out.mono ?_
  clear C
  rintro e w14 ⟨rfl, hB⟩
  have na := na.below hB (Nat.le_refl _)
  have nb := nb.below hB (Nat.le_refl _)
  have no := no.below hB (Nat.le_refl _)
  have hb14 := hb13.trans (hB.mono hb13.size)
  clear hB hb13 ca1 cr0
  have C0 : Calls Tryd.prog 30 #[.slice pb 3 Kb] w14 fun e w' => e = .returned (.int .i64 64) ∧ w14 = w' :=
    (tail_any (nb.digs [0, 0, 1] can001 (by decide)) can001.1 (by decide) (HT.out.below hb14)).mono fun e w' h => by
      obtain ⟨⟨t, he, ht⟩, hw⟩ := h
      refine ⟨?_, hw⟩
      rw [show val 4294967296 [0, 0, 1] = 2 ^ 64 by decide] at ht
      rcases ht with ⟨h1, _⟩ | ⟨m, hm⟩
      · exact absurd h1 (by decide)
      · rw [he, two_odd hm]; rfl
  have C := Lib.hid C0
  clear C0
  go_wp2_with fail
  refine C.out.mono ?_
  clear C
  rintro e w15 ⟨rfl, rfl⟩
  go_wp2_with fail
  refine (O1.out _).mono ?_
  rintro e w16 ⟨⟨vx, rfl, nx⟩, hB⟩
  obtain ⟨px, Kx, rfl, atx⟩ : ∃ p K, vx = .slice p 1 K ∧ At .u32 w16 p K [1] := nx.digs [1] can1 (by decide)
  have na := na.below hB (Nat.le_refl _)
  have nb := nb.below hB (Nat.le_refl _)
  have no := no.below hB (Nat.le_refl _)
  have hb16 := hb14.trans (hB.mono hb14.size)
  clear hB hb14
  have C0 : Calls Tryd.prog 22 #[.slice po 1 Ko, .slice px 1 Kx] w16 fun e w' => e = .returned (.bool true) ∧ Below w16.heap.size w16 w' := by
    obtain ⟨p, K, e, ato⟩ := no.digs [1] can1 (by decide)
    cases e
    exact (equal_nat po px Ko Kx [1] [1] w16 ato atx (by decide)).mono fun e w' h => ⟨h.1.trans (by rfl), h.2⟩
  have C := Lib.hid C0
  clear C0
  go_wp2_with fail
  refine C.out.mono ?_
  clear C
  rintro e w17 ⟨rfl, hB⟩
  have na := na.below hB (Nat.le_refl _)
  have nb := nb.below hB (Nat.le_refl _)
  have hb17 := hb16.trans (hB.mono hb16.size)
  clear hB hb16
  have C0 : Calls Tryd.prog 25 #[.slice (some ⟨ba, oa, none⟩) 2 Ka, .slice pb 3 Kb] w17 fun e w' => e = .returned (.int .i64 (-1)) ∧ Below w17.heap.size w17 w' :=
    (compare_any (na.digs [0, 1] can01 (by decide)) (nb.digs [0, 0, 1] can001 (by decide)) can01 can001 (by decide) (by decide)).mono fun e w' h => ⟨h.1.trans (by rw [show cmpI (val 4294967296 [0, 1] : Nat) (val 4294967296 [0, 0, 1] : Nat) = -1 by decide]), h.2⟩
  have C := Lib.hid C0
  clear C0
  go_wp2_with fail
  refine C.out.mono ?_
  clear C
  rintro e w18 ⟨rfl, hB⟩
  have nb := nb.below hB (Nat.le_refl _)
  have hb18 := hb17.trans (hB.mono hb17.size)
  clear hB hb17 na
  have C0 : Calls Tryd.prog 31 #[.slice pb 3 Kb] w18 fun e w' => e = .returned (.int .i64 0) ∧ Below w18.heap.size w18 w' :=
    (check_any (nb.digs [0, 0, 1] can001 (by decide)) (by decide)).mono fun e w' h => ⟨h.1.trans (by rw [show checkOf [0, 0, 1] = 0 by decide]; rfl), h.2⟩
  have C := Lib.hid C0
  clear C0
  go_wp2_with fail
  refine C.out.mono ?_
  clear C
  rintro e w19 ⟨rfl, hB⟩
  have hb19 := hb18.trans (hB.mono hb18.size)
  clear hB hb18 nb
  have C0 : Calls Tryd.prog 31 #[.slice (some ⟨w19.heap.size, 0, none⟩) 1 1] (w19.alloc (.cells #[.int .u32 0] 35)) fun e w' => e = .returned (.int .i64 2) ∧ Below (w19.alloc (.cells #[.int .u32 0] 35)).heap.size (w19.alloc (.cells #[.int .u32 0] 35)) w' := by
    have hn : Nums .u32 (w19.alloc (.cells #[.int .u32 0] 35)) (.slice (some ⟨w19.heap.size, 0, none⟩) 1 1) [0] :=
      nums_new .u32 w19 _ _ [0] 1 (by simp) fun j hj => by
        match j, hj with
        | 0, _ => rfl
    exact (check_any hn (by decide)).mono fun e w' h => ⟨h.1.trans (by rw [show checkOf [0] = 2 by decide]; rfl), h.2⟩
  have C := Lib.hid C0
  clear C0
  go_wp2_with fail
  refine C.out.mono ?_
  clear C
  rintro e w20 ⟨rfl, hB⟩
  have hb20 := (hb19.alloc hb19.size (.cells #[.int .u32 0] 35)).trans (hB.mono (by have := hb19.size; simp; omega))
  clear hB hb19
  go_wp2
  go_ret
  exact ⟨rfl, hb20⟩

end Go.Proofs.YtphhaaofkckobaaDoor
