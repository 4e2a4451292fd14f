/-
  What the statement stands on.
-/
import Derived.Test.YtcdmojefheipoaaGreatDoorM25
namespace Go.Proofs.YtcdmojefheipoaaGreatDoor
open Go.RowKit
theorem dq_sub (x y e : Int) : dq x e - dq y e = dq (x - y) e := by rw [Rat.sub_eq_add_neg, dq_neg, dq_add, ← Int.sub_eq_add_neg]
set_option maxRecDepth 100000 in
set_option maxHeartbeats 4000000 in
theorem dnear_zero {va : Value} {w : World} (ha : IsRat w va 0) (n : Nat) (h2 : 2 ≤ n) (h4 : n ≤ 4096) (up : Bool) :
    Calls Tryz.prog 95 #[va, .int .i64 n, .bool up] w fun ev w' => ev = .returned (.tuple #[.agg #[.bool false, .slice none 0 0, .int .i64 0], .int .i64 0]) ∧ Below w.heap.size w w' := by
  obtain ⟨b, p, l, K, q, j, J, rfl, hb, nn, dd⟩ := ha
  have HN := Lib.hid (And.intro (show (2 : Int) ≤ (n : Int) by omega) (show (n : Int) ≤ 4096 by omega))
  clear h2 h4
  have S := ((St.start w).alloc 34 [.bool b, .slice p l K, .slice q j J] (w.heap.size)).alloc 27 [.bool false, .slice none 0 0, .int .i64 0] (w.heap.size + 1)
  try simp only [List.cons_append, List.nil_append] at S
  replace nn := nn.hold S.hold; replace dd := dd.hold S.hold
  obtain ⟨c0_0, c0_1, c0_2⟩ := S.c3 0 rfl; obtain ⟨c1_0, c1_1, c1_2⟩ := S.c3 1 rfl
  go_enter Tryz.func95, Tryz.ntmps95
  go_wp2_with fail; clear c0_0 c0_1 c0_2 c1_0 c1_1 c1_2
  refine (S.call (bits_in n _ HN.out.1 HN.out.2)).mono ?_
  clear S
  rintro e w1 ⟨rfl, S, H⟩
  replace nn := nn.hold H; replace dd := dd.hold H
  clear H; obtain ⟨c0_0, c0_1, c0_2⟩ := S.c3 0 rfl; obtain ⟨c1_0, c1_1, c1_2⟩ := S.c3 1 rfl; go_wp2_with fail; clear c0_0 c0_1 c0_2 c1_0 c1_1 c1_2
  refine (S.call (rsign_any (s := 0) ⟨b, p, l, K, q, j, J, rfl, hb, nn, dd⟩ (lt_maxN (by decide)) rfl)).mono ?_
  clear S
  rintro e w2 ⟨rfl, S, H⟩
  replace nn := nn.hold H; replace dd := dd.hold H
  clear H; obtain ⟨c0_0, c0_1, c0_2⟩ := S.c3 0 rfl; obtain ⟨c1_0, c1_1, c1_2⟩ := S.c3 1 rfl
  obtain ⟨f1_0, f1_1, f1_2⟩ := S.f3 1 rfl
  have HP := S.put3 1 (.bool false) (.slice none 0 0) (.int .i64 0) rfl rfl; have H := HP.2; replace S := HP.1; clear HP
  replace nn := nn.hold32 H; replace dd := dd.hold32 H
  clear H; go_wp2_with fail; obtain ⟨d1_0, d1_1, d1_2⟩ := S.c3 1 rfl
  exact bodyPost_ret (v := .tuple #[.agg #[.bool false, .slice none 0 0, .int .i64 0], .int .i64 0]) (by simp [results, Tryz.f95, go_sem, d1_0, d1_1, d1_2]) rfl (⟨rfl, S.below⟩)
theorem rndZ_even {z f : Int} {n : Nat} (hn1 : 1 ≤ n) (hz : z.natAbs ≤ 2 ^ (n + 1)) (up : Bool) : ∃ y : Int, rndZ z f n up = dq y f ∧ (z.natAbs < 2 ^ n → y = z) ∧ (2 ^ n ≤ z.natAbs → y % 2 = 0 ∧ (up = false → y ≤ z ∧ z ≤ y + 1) ∧ (up = true → z ≤ y ∧ y ≤ z + 1)) := by
  have h2n := Nat.two_pow_pos n
  have h2n1 : 2 ^ (n + 1) = 2 * 2 ^ n := by rw [Nat.pow_succ, Nat.mul_comm]
  by_cases h1 : z.natAbs < 2 ^ n
  · refine ⟨z, ?_, fun _ => rfl, fun h => by omega⟩
    unfold rndZ
    rw [if_pos]
    rcases Nat.eq_zero_or_pos z.natAbs with h | h
    · rw [h]; simp [nbits]
    · exact nbits_pb (by omega) (by rw [PB_is]; exact h1)
  · have hnb : n < nbits z.natAbs := by
      apply Nat.lt_of_not_le
      intro h
      obtain ⟨_, _, h3⟩ := nbits_spec (n := z.natAbs) (by omega)
      have := Nat.pow_le_pow_right (n := 2) (by decide) h
      omega
    by_cases h3 : z.natAbs = 2 ^ (n + 1)
    · have hb : nbits z.natAbs = n + 2 := by
        rw [h3]
        exact nbits_of (by omega) (by simp) (by rw [Nat.pow_succ 2 (n + 1)]; omega)
      refine ⟨z, ?_, fun h => by omega, fun _ => ⟨by omega, fun _ => ⟨by omega, by omega⟩, fun _ => ⟨by omega, by omega⟩⟩⟩
      unfold rndZ
      rw [if_neg (by omega), hb, show n + 2 - n = 2 by omega]
      obtain ⟨g, hg⟩ : ∃ g : Int, z = g * 4 := by
        obtain ⟨u, hu⟩ : ∃ u, n = u + 1 := ⟨n - 1, by omega⟩
        rw [hu, Nat.pow_succ, Nat.pow_succ] at h3
        rcases Int.natAbs_eq z with h | h
        · exact ⟨((2 ^ u : Nat) : Int), by omega⟩
        · exact ⟨-((2 ^ u : Nat) : Int), by omega⟩
      have e1 : divI z ((2 ^ 2 : Nat) : Int) up = g := by
        unfold divI
        rw [hg, if_neg (by rintro ⟨_, h⟩; omega)]
        omega
      rw [e1, ← dq_shift, hg]
      rfl
    · have hb : nbits z.natAbs = n + 1 := nbits_of (by omega) (by rw [Nat.add_sub_cancel]; omega) (by omega)
      refine ⟨divI z 2 up * 2, ?_, fun h => by omega, fun _ => ⟨by omega, ?_⟩⟩
      · unfold rndZ
        rw [if_neg (by omega), hb, show n + 1 - n = 1 by omega, ← dq_shift]
        rfl
      · unfold divI
        constructor
        · intro h; subst h
          rw [if_neg (by rintro ⟨h, _⟩; cases h)]
          omega
        · intro h; subst h
          split
          · omega
          · rename_i h
            have : ¬ 0 < z % 2 := fun h' => h ⟨rfl, h'⟩
            omega
theorem rndZ_few {z f p g : Int} {n : Nat} {up : Bool} (hn : 2 ≤ n) (hp : DyC p g) (h : dq p g = rndZ z f n up) : nbits p.natAbs ≤ n := by
  obtain ⟨m, e, hc, he⟩ := canon_ex z f
  exact rnd_few hn hc hp (h.trans (rnd_canon hc he n up).symm)
theorem dq_le_of {x y e : Int} (h : x ≤ y) : dq x e ≤ dq y e := (dq_le x y e).2 h
theorem quot_between {a : Rat} {N f : Int} {D : Nat} (hD : 0 < D) (h : a * ((D : Int) : Rat) = dq N f) :
    dq (N / (D : Int)) f ≤ a ∧ (N % (D : Int) = 0 → a = dq (N / (D : Int)) f) ∧ (0 < N % (D : Int) → dq (N / (D : Int)) f < a ∧ a < dq (N / (D : Int) + 1) f) := by
  have h1 := Int.emod_add_mul_ediv N (D : Int)
  have h2 := Int.emod_nonneg N (show (D : Int) ≠ 0 by omega)
  have h3 := Int.emod_lt_of_pos N (show (0 : Int) < (D : Int) by omega)
  generalize N / (D : Int) = q at *
  generalize N % (D : Int) = r at *
  have hDr : (0 : Rat) < ((D : Int) : Rat) := by
    have : ((0 : Int) : Rat) < ((D : Int) : Rat) := Rat.intCast_lt_intCast.2 (by omega)
    simpa using this
  have e1 : ∀ z : Int, dq z f * ((D : Int) : Rat) = dq (z * D) f := fun z => by
    unfold dq; rw [Rat.intCast_mul]; grind
  have key : ∀ z : Int, (dq z f < a ↔ z * D < N) ∧ (a < dq z f ↔ N < z * D) := fun z => by
    constructor
    · rw [← Rat.mul_lt_mul_right hDr, e1, h, dq_lt]
    · rw [← Rat.mul_lt_mul_right hDr, e1, h, dq_lt]
  have hN : N = q * D + r := by rw [Int.mul_comm]; omega
  refine ⟨?_, ?_, ?_⟩
  · apply Rat.not_lt.1
    intro h'
    have := (key q).2.1 h'
    omega
  · intro hr
    have a1 := (key q).1
    have a2 := (key q).2
    rcases rat_three a (dq q f) with h' | h' | h'
    · have := a2.1 h'; omega
    · exact h'
    · have := a1.1 h'; omega
  · intro hr
    refine ⟨(key q).1.2 (by omega), (key (q + 1)).2.2 ?_⟩
    rw [Int.add_mul]; omega
theorem even_near {n : Nat} (hn : 1 ≤ n) {q w u v r : Int} (hw : (r = 0 ∧ w = q) ∨ (0 < r ∧ w = q + 1))
    (u1 : q.natAbs < 2 ^ n → u = q) (u2 : 2 ^ n ≤ q.natAbs → u % 2 = 0 ∧ u ≤ q ∧ q ≤ u + 1) (v1 : w.natAbs < 2 ^ n → v = w) (v2 : 2 ^ n ≤ w.natAbs → v % 2 = 0 ∧ w ≤ v ∧ v ≤ w + 1) :
    u ≤ q ∧ w ≤ v ∧ v - u ≤ 2 ∧ (r = 0 → (u = q ↔ v = q)) := by
  have h2 : 2 ^ n % 2 = 0 := by
    obtain ⟨k, hk⟩ : ∃ k, n = k + 1 := ⟨n - 1, by omega⟩
    rw [hk, Nat.pow_succ, Nat.mul_mod_left]
  generalize 2 ^ n = c at *
  by_cases hq : q.natAbs < c <;> by_cases hw2 : w.natAbs < c
  · have a := u1 hq; have b := v1 hw2; omega
  · have a := u1 hq; have b := v2 (by omega); omega
  · have a := u2 (by omega); have b := v1 hw2; omega
  · have a := u2 (by omega); have b := v2 (by omega); omega
set_option maxHeartbeats 1000000 in
theorem near_core {a : Rat} {N f : Int} {D n : Nat} (hD : 0 < D) (h : a * ((D : Int) : Rat) = dq N f) (hn : 2 ≤ n) (h1 : N.natAbs < D * 2 ^ (n + 1)) (h2 : D * 2 ^ (n - 1) ≤ N.natAbs) (yl yh : Rat) (hl : rndZ (divI N (D : Int) false) f n false = yl) (hh : rndZ (divI N (D : Int) true) f n true = yh) :
    yl ≤ a ∧ a ≤ yh ∧ (yl = a ↔ yh = a) ∧ (yh - yl) * (((2 ^ (n - 2) : Nat) : Int) : Rat) ≤ a.abs := by
  obtain ⟨c1, c2, c3⟩ := quot_between hD h
  have b1 := divI_bits hD false h1
  have b2 := divI_bits hD true h1
  obtain ⟨u, hu, u1, u2⟩ := rndZ_even (f := f) (n := n) (by omega) b1 false
  obtain ⟨v, hv, v1, v2⟩ := rndZ_even (f := f) (n := n) (by omega) b2 true
  have e1 : divI N (D : Int) false = N / (D : Int) := by unfold divI; rw [if_neg (by rintro ⟨h, _⟩; cases h)]
  obtain ⟨w, hw⟩ : ∃ w, divI N (D : Int) true = w := ⟨_, rfl⟩
  have hw2 : w = if 0 < N % (D : Int) then N / (D : Int) + 1 else N / (D : Int) := by
    rw [← hw]; unfold divI
    by_cases h0 : 0 < N % (D : Int)
    · rw [if_pos ⟨rfl, h0⟩, if_pos h0]
    · rw [if_neg (by rintro ⟨_, h'⟩; exact h0 h'), if_neg h0]
  have hr := Int.emod_nonneg N (show (D : Int) ≠ 0 by omega)
  have hrlt := Int.emod_lt_of_pos N (show (0 : Int) < (D : Int) by omega)
  have hq := Int.emod_add_mul_ediv N (D : Int)
  rw [hl] at hu
  rw [hh] at hv
  rw [e1] at u1 u2
  rw [hw] at v1 v2
  generalize N / (D : Int) = q at *
  generalize N % (D : Int) = r at *
  have hrw : (r = 0 ∧ w = q) ∨ (0 < r ∧ w = q + 1) := by
    rcases Int.lt_or_eq_of_le hr with h0 | h0
    · exact .inr ⟨h0, by rw [hw2, if_pos h0]⟩
    · exact .inl ⟨h0.symm, by rw [hw2, if_neg (by omega)]⟩
  obtain ⟨g1, g2, g3, g4⟩ := even_near (by omega) hrw u1 (fun h => ⟨(u2 h).1, (u2 h).2.1 rfl⟩) v1 (fun h => ⟨(v2 h).1, (v2 h).2.2 rfl⟩)
  subst hu
  subst hv
  have a1 := dq_le_of (e := f) g1
  have a2 := dq_le_of (e := f) g2
  -- how great it is at least
  obtain ⟨c, hc⟩ : ∃ c : Nat, 2 ^ (n - 1) = c := ⟨_, rfl⟩
  have hc2 : (2 : Nat) * 2 ^ (n - 2) = c := by rw [← hc, show n - 1 = (n - 2) + 1 by omega, Nat.pow_succ, Nat.mul_comm]
  rw [hc] at h2
  have hNq : N = q * (D : Int) + r := by rw [Int.mul_comm]; omega
  have hDc : ((D * c : Nat) : Int) = (c : Int) * (D : Int) := by rw [Int.natCast_mul, Int.mul_comm]
  have hDI : (0 : Int) < (D : Int) := by omega
  have habs : dq (c : Int) f ≤ a.abs := by
    have hc0 : 0 < c := by rw [← hc]; exact Nat.two_pow_pos _
    have p0 : 0 < dq (c : Int) f := by have := (dq_lt 0 (c : Int) f).2 (by omega); rwa [dq_zero] at this
    rcases (show (c : Int) * D ≤ N ∨ N ≤ -((c : Int) * D) by omega) with k | k
    · have k1 : (c : Int) ≤ q := by
        apply Int.not_lt.1
        intro h'
        have k2 : (q + 1) * (D : Int) ≤ (c : Int) * (D : Int) := Int.mul_le_mul_of_nonneg_right (by omega) (by omega)
        have k3 : r < (D : Int) := hrlt
        rw [Int.add_mul] at k2
        omega
      have k4 := dq_le_of (e := f) k1
      rw [Rat.abs_of_nonneg (by grind)]
      grind
    · have k5 : a ≤ dq (-(c : Int)) f := by
        rcases hrw with ⟨x, _⟩ | ⟨x, _⟩
        · rw [c2 x]
          apply dq_le_of
          apply Int.not_lt.1
          intro h'
          have k2 : (-(c : Int) + 1) * (D : Int) ≤ q * (D : Int) := Int.mul_le_mul_of_nonneg_right (by omega) (by omega)
          rw [Int.add_mul, Int.neg_mul] at k2
          omega
        · have k6 : q + 1 ≤ -(c : Int) := by
            apply Int.not_lt.1
            intro h'
            have k2 : (-(c : Int)) * (D : Int) ≤ q * (D : Int) := Int.mul_le_mul_of_nonneg_right (by omega) (by omega)
            rw [Int.neg_mul] at k2
            omega
          have k7 := dq_le_of (e := f) k6
          have := (c3 x).2
          grind
      rw [← dq_neg] at k5
      rw [Rat.abs_of_nonpos (by grind)]
      grind
  have hgap : (dq v f - dq u f) * (((2 ^ (n - 2) : Nat) : Int) : Rat) ≤ a.abs := by
    have m1 : dq v f - dq u f ≤ dq 2 f := by rw [dq_sub]; exact dq_le_of g3
    have m2 : dq 2 f * (((2 ^ (n - 2) : Nat) : Int) : Rat) = dq (c : Int) f := by
      rw [← hc2]
      unfold dq
      rw [Int.natCast_mul, Rat.intCast_mul]
      grind
    have m3 : (0 : Rat) ≤ (((2 ^ (n - 2) : Nat) : Int) : Rat) := by
      have : ((0 : Int) : Rat) ≤ (((2 ^ (n - 2) : Nat) : Int) : Rat) := Rat.intCast_le_intCast.2 (by omega)
      simpa using this
    have m4 := Rat.mul_le_mul_of_nonneg_right m1 m3
    grind
  rcases hrw with ⟨x, y⟩ | ⟨x, y⟩
  · have ha := c2 x
    have hg := g4 x
    subst y
    refine ⟨by rw [ha]; exact a1, by rw [ha]; exact a2, ?_, hgap⟩
    rw [ha, dq_eq, dq_eq]
    exact hg
  · have hb := c3 x
    subst y
    refine ⟨by grind, by grind, ⟨fun h => ?_, fun h => ?_⟩, hgap⟩
    · exfalso; grind
    · exfalso; grind
set_option maxRecDepth 100000 in
set_option maxHeartbeats 1000000 in
theorem or_list (g n : Nat) (E : Nat → Int) (w : World) (hg : g < w.heap.size) (hn : n ≤ 1000) (hs : ∀ j, j < n → w.cell? ⟨g, j, none⟩ = some (.int .i64 (E j))) :
    Calls Tryz.prog 66 #[.slice (some ⟨g, 0, none⟩) n n] w fun e w' => (∃ r, e = .returned (.int .i64 r) ∧ Hid (r = 0 → ∀ j, j < n → E j = 0)) ∧ Below w.heap.size w w' := by
  have HS := Lib.hid hs
  clear hs
  have S := St.start w
  go_enter Tryz.func66, Tryz.ntmps66
  go_wp2_with fail
  go_loopw [8] (fun si wr => ∃ k : Nat, k ≤ n ∧ si = .int .i64 k ∧ Hid (∀ j, j < k → E j = 0) ∧ St w wr []) (fun si _ => n - (intOf si).toNat)
  case atStart => exact ⟨0, by omega, rfl, fun j hj => by omega, S⟩
  case round =>
    obtain ⟨k, hk, rfl, hz, S⟩ := hrel
    by_cases hlt : k < n
    · have a0 := (S.below.cell (p := ⟨g, k, none⟩) hg).trans (HS.out k hlt)
      have HL := Lib.hid hlt
      have hki : (k : Int) < ((n : Nat) : Int) := by omega
      obtain ⟨ek, hek⟩ : ∃ ek, E k = ek := ⟨_, rfl⟩
      have HE := Lib.hid hek
      rw [hek] at a0
      clear hlt hek
      by_cases h0 : ek = 0
      · have h0' : (ek != 0) = false := by rw [h0]; rfl
        have H0 := Lib.hid h0
        clear h0; go_wp2_with fail
        go_roundw
        case rel =>
          refine ⟨k + 1, HL.out, by go_num, fun j hj => ?_, S⟩
          by_cases hjk : j = k
          · rw [hjk, HE.out, H0.out]
          · exact hz.out j (by omega)
        case measure => have := HL.out; simp [intOf]; omega
      · have h0' : (ek != 0) = true := by simpa using h0
        have H0 := Lib.hid h0
        clear h0; go_wp2_with fail
        go_ret
        exact ⟨⟨ek, rfl, fun h => absurd h H0.out⟩, S.below⟩
    · have hge : ¬ (k : Int) < ((n : Nat) : Int) := by omega
      have HZ : ∀ j, j < n → E j = 0 := fun j hj => hz.out j (by omega)
      have HZ := Lib.hid HZ
      clear hlt hz
      go_wp2
      go_ret
      exact ⟨⟨0, rfl, fun _ => HZ.out⟩, S.below⟩
theorem or_pair {g : Nat} {w W : World} {L : List (Nat × TypeId × List Value)} (S : St w W L) (i : Nat) {t : TypeId} {c d : Int} (hi : L[i]? = some (g, t, [.int .i64 c, .int .i64 d])) :
    Calls Tryz.prog 66 #[.slice (some ⟨g, 0, none⟩) 2 2] W fun e w' => (∃ r, e = .returned (.int .i64 r) ∧ Hid (r = 0 → c = 0 ∧ d = 0)) ∧ Below W.heap.size W w' :=
  (or_list g 2 (fun j => [c, d].getD j 0) W (S.lt i hi) (by decide) fun j hj => by
    match j, hj with
    | 0, _ => exact S.c i 0 hi rfl
    | 1, _ => exact S.c i 1 hi rfl).mono fun e w' ⟨⟨r, he, hr⟩, hB⟩ => ⟨⟨r, he, fun h => ⟨hr.out h 0 (by decide), hr.out h 1 (by decide)⟩⟩, hB⟩
theorem check_rawN (p : Option Addr) (K l : Nat) (es : List Nat) (w : World) (hat : At .u32 w p K es) (hl : es.length = l) (h5 : l ≤ 1000000) (c : Int) (hc : ((checkOf es : Nat) : Int) = c) :
    Calls Tryz.prog 93 #[.slice p l K] w fun e w' => e = .returned (.int .i64 c) ∧ Below w.heap.size w w' := by
  subst hl; subst hc
  exact check_any hat.nums h5
def ValidR (b : Bool) (ds es : List Nat) : Prop := (cut ds = ds ∧ (b = true → ds ≠ [])) ∧ cut es = es ∧ val 4294967296 es ≠ 0 ∧ Nat.gcd (val 4294967296 ds) (val 4294967296 es) = 1
theorem check_cut {es : List Nat} (hl : es.length ≤ 512) (h : ((checkOf es : Nat) : Int) = 0) : cut es = es := by
  have hz : checkOf es = 0 := by omega
  unfold checkOf at hz
  rw [if_neg (by omega)] at hz
  split at hz
  · omega
  · rename_i h2
    have := cut_le es
    exact cut_full es (by omega)
theorem bits_le_one {g : Nat} (h0 : g ≠ 0) (h : ¬ 1 < nbits g) : g = 1 := by
  obtain ⟨h1, h2, h3⟩ := nbits_spec h0
  have : nbits g = 1 := by omega
  rw [this] at h3
  omega
set_option maxRecDepth 100000 in
set_option maxHeartbeats 4000000 in
theorem rcheck_raw (b : Bool) (p p' : Option Addr) (K K' l l' : Nat) (ds es : List Nat) (w : World) (at1 : At .u32 w p K ds) (at2 : At .u32 w p' K' es) (d1 : Dig 4294967296 ds) (d2 : Dig 4294967296 es) (hl : ds.length = l) (hl' : es.length = l') (h5 : l ≤ 512) (h5' : l' ≤ 512) :
    Calls Tryz.prog 45 #[.agg #[.bool b, .slice p l K, .slice p' l' K']] w fun e w' => (∃ c : Int, e = .returned (.int .i64 c) ∧ Hid (c = 0 → ValidR b ds es)) ∧ Below w.heap.size w w' := by
  obtain ⟨c2, hc2⟩ : ∃ c2 : Int, ((checkOf es : Nat) : Int) = c2 := ⟨_, rfl⟩
  have HD := Lib.hid (And.intro d1 (And.intro d2 (And.intro hl (And.intro hl' (And.intro h5 (And.intro h5' hc2))))))
  clear d1 d2 hl hl' h5 h5' hc2
  have S := (St.start w).alloc 34 [.bool b, .slice p l K, .slice p' l' K'] (w.heap.size)
  try simp only [List.nil_append] at S
  replace at1 := at1.hold S.hold; replace at2 := at2.hold S.hold
  obtain ⟨c0_0, c0_1, c0_2⟩ := S.c3 0 rfl
  go_enter Tryz.func45, Tryz.ntmps45
  go_upto_region 1 with fail
  clear c0_0 c0_1 c0_2
  generalize (w.alloc (.cells #[.bool b, .slice p l K, .slice p' l' K'] 34)) = w1 at S at1 at2 ⊢
  have HH := Hold.drew w1
  replace at1 := at1.hold HH; replace at2 := at2.hold HH
  replace S := S.drew
  refine wp_region_held_drew (S := fun W => W.cell? ⟨w.heap.size, 0, none⟩ = some (.bool b) ∧ W.cell? ⟨w.heap.size, 1, none⟩ = some (.slice p l K) ∧ W.cell? ⟨w.heap.size, 2, none⟩ = some (.slice p' l' K')) (by kernel_rfl) (S.c3 0 rfl) (fun hS => ?_)
  generalize w1.drew = w2 at S at1 at2 HH hS ⊢
  refine tk 0 hS ?_
  refine tk 1 hS ?_
  refine tk 3 hS ?_
  refine tk 4 hS ?_
  refine rd 2 fun KK hKK => ?_
  go_simp; clear hS
  refine (S.call (wcheck_raw b p K l ds _ at1 HD.out.1 HD.out.2.2.1 HD.out.2.2.2.2.1)).mono ?_
  clear S
  rintro e w3 ⟨⟨c1, rfl, h1⟩, S, H⟩
  replace at1 := at1.hold H; replace at2 := at2.hold H; replace HH := HH.trans H; clear H
  go_wp2_with fail
  refine ho hKK (S.c3 0 rfl) fun hS => ?_
  clear hKK KK
  refine rd 5 fun KK hKK => ?_
  go_simp; clear hS
  refine (S.call (check_rawN p' K' l' es _ at2 HD.out.2.2.2.1 (by have := HD.out.2.2.2.2.2.1; omega) c2 HD.out.2.2.2.2.2.2)).mono ?_
  clear S
  rintro e w4 ⟨rfl, S, H⟩
  replace at1 := at1.hold H; replace at2 := at2.hold H; replace HH := HH.trans H; clear H
  go_wp2_with fail
  refine ho hKK (S.c3 0 rfl) fun hS => ?_
  clear hKK KK
  refine rd 6 fun KK hKK => ?_
  go_simp; clear hS
  have H := S.hnew 36 [.int .i64 c1, .int .i64 c2]
  replace S := S.al 36 [.int .i64 c1, .int .i64 c2] (w4.heap.size)
  replace at1 := at1.hold H; replace at2 := at2.hold H; replace HH := HH.trans H; clear H
  refine ho hKK (S.c3 0 rfl) fun hS => ?_
  generalize (w4.alloc (.cells #[.int .i64 c1, .int .i64 c2] 36)) = w5 at S at1 at2 HH hS ⊢
  clear hKK KK
  refine rd 7 fun KK hKK => ?_
  go_simp; clear hS
  refine (S.call (or_pair S 1 rfl)).mono ?_
  clear S
  rintro e w6 ⟨⟨r, rfl, hr⟩, S, H⟩
  replace at1 := at1.hold H; replace at2 := at2.hold H; replace HH := HH.trans H; clear H
  go_wp2_with fail
  refine ho hKK (S.c3 0 rfl) fun hS => ?_
  clear hKK KK
  refine rd 8 fun KK hKK => ?_
  go_simp
  refine ho hKK hS fun hS => ?_
  clear hKK KK
  refine wpAnyH_done (by kernel_rfl) ?_ _
  clear hS HH
  by_cases h0 : r = 0
  · have h0' : (r != 0) = false := by rw [h0]; rfl
    obtain ⟨e1, e2⟩ := hr.out h0
    have v1 := h1.out e1
    have v2 := check_cut (by have := HD.out.2.2.2.1; have := HD.out.2.2.2.2.2.1; omega) (HD.out.2.2.2.2.2.2.trans e2)
    have nn : IsNat w6 (.slice p l K) (val 4294967296 ds) := by rw [← HD.out.2.2.1]; exact ⟨ds, at1.nums, ⟨HD.out.1, v1.1⟩, rfl⟩
    have nd : IsNat w6 (.slice p' l' K') (val 4294967296 es) := by rw [← HD.out.2.2.2.1]; exact ⟨es, at2.nums, ⟨HD.out.2.1, v2⟩, rfl⟩
    have m1 : val 4294967296 ds < maxN := Can.len_max ⟨HD.out.1, v1.1⟩ |>.1 (by rw [HD.out.2.2.1]; exact HD.out.2.2.2.2.1)
    have m2 : val 4294967296 es < maxN := Can.len_max ⟨HD.out.2.1, v2⟩ |>.1 (by rw [HD.out.2.2.2.1]; exact HD.out.2.2.2.2.2.1)
    obtain ⟨n, hn⟩ : ∃ n, val 4294967296 ds = n := ⟨_, rfl⟩
    obtain ⟨m, hm⟩ : ∃ m, val 4294967296 es = m := ⟨_, rfl⟩
    rw [hn] at nn m1
    rw [hm] at nd m2
    have HV := Lib.hid (And.intro v1 (And.intro v2 (And.intro hn (And.intro hm (And.intro m1 m2)))))
    obtain ⟨t, ht⟩ : ∃ t, nbits m = t := ⟨_, rfl⟩
    have HT := Lib.hid ht
    clear hr h1 e1 e2 v1 v2 hn hm m1 m2 ht h0; clear at1 at2; obtain ⟨c0_0, c0_1, c0_2⟩ := S.c3 0 rfl; go_wp2_with fail; clear c0_0 c0_1 c0_2
    refine (S.call (bits_nat nd HV.out.2.2.2.2.2 HT.out)).mono ?_
    clear S
    rintro e w7 ⟨rfl, S, H⟩
    replace nn := nn.hold H; replace nd := nd.hold H
    clear H; obtain ⟨c0_0, c0_1, c0_2⟩ := S.c3 0 rfl
    by_cases ht0 : t = 0
    · subst ht0
      go_wp2_with fail
      exact bodyPost_ret (v := .int .i64 2) (by simp [results, Tryz.f45, go_sem]) rfl (⟨⟨2, rfl, fun h => by cases h⟩, S.below⟩)
    · have htI : ((t : Int) == 0) = false := by simpa using ht0
      have htJ : ¬ (t : Int) = 0 := by omega
      have hm0 : m ≠ 0 := fun e => ht0 (by rw [← HT.out, e]; rfl)
      have HM := Lib.hid hm0
      clear ht0 hm0; go_wp2_with fail; clear c0_0 c0_1 c0_2
      refine (S.call (gcd_any nn nd HV.out.2.2.2.2.1 HV.out.2.2.2.2.2)).mono ?_
      clear S
      rintro e w8 ⟨⟨v, rfl, nv⟩, S, H⟩
      replace nn := nn.hold H; replace nd := nd.hold H
      clear H; obtain ⟨c0_0, c0_1, c0_2⟩ := S.c3 0 rfl
      obtain ⟨u, hu⟩ : ∃ u, nbits (Nat.gcd n m) = u := ⟨_, rfl⟩
      have HU := Lib.hid hu
      have hgm : Nat.gcd n m < maxN := Nat.lt_of_le_of_lt (Nat.gcd_le_right _ (by have := HM.out; omega)) HV.out.2.2.2.2.2
      have HG := Lib.hid hgm
      clear hu hgm; go_wp2_with fail; clear c0_0 c0_1 c0_2
      refine (S.call (bits_nat nv HG.out HU.out)).mono ?_
      clear S
      rintro e w9 ⟨rfl, S, H⟩
      refine iv3 H nn nd nv ?_; clear nn nd nv; intro nn nd nv
      clear H; obtain ⟨c0_0, c0_1, c0_2⟩ := S.c3 0 rfl
      by_cases hu1 : 1 < u
      · have hu1' : (1 : Int) < (u : Int) := by omega
        go_wp2_with fail
        exact bodyPost_ret (v := .int .i64 2) (by simp [results, Tryz.f45, go_sem]) rfl (⟨⟨2, rfl, fun h => by cases h⟩, S.below⟩)
      · have hu1' : ¬ (1 : Int) < (u : Int) := by omega
        have HOK := Lib.hid (show ValidR b ds es from ⟨HV.out.1, HV.out.2.1, by rw [HV.out.2.2.2.1]; exact HM.out, by rw [HV.out.2.2.1, HV.out.2.2.2.1]; exact bits_le_one (fun e => HM.out (Nat.gcd_eq_zero_iff.1 e).2) (by rw [HU.out]; exact hu1)⟩)
        clear hu1; go_wp2_with fail
        exact bodyPost_ret (v := .int .i64 0) (by simp [results, Tryz.f45, go_sem]) rfl (⟨⟨0, rfl, fun _ => HOK.out⟩, S.below⟩)
  · have h0' : (r != 0) = true := by simpa using h0
    have H0 := Lib.hid h0
    clear h0; go_wp2_with fail
    exact bodyPost_ret (v := .int .i64 r) (by simp [results, Tryz.f45, go_sem]) rfl (⟨⟨r, rfl, fun h => absurd h H0.out⟩, S.below⟩)
def TriedR (k : Nat) (b : Bool) (ds es : List Nat) : Prop := ds.length ≤ k ∧ es.length ≤ k ∧ ValidR b ds es
theorem tried_rat {b : Bool} {ds es : List Nat} {k l m : Nat} {p p' : Option Addr} {K K' : Nat} {w : World} (h : TriedR k b ds es) (d1 : Dig 4294967296 ds) (d2 : Dig 4294967296 es) (hl : ds.length = l) (hm : es.length = m) (at1 : At .u32 w p K ds) (at2 : At .u32 w p' K' es) :
    ∃ q : Rat, Hid (negB q.num = b) ∧ RB q k ∧ IsNat w (.slice p l K) q.num.natAbs ∧ IsNat w (.slice p' m K') q.den := by
  subst hl; subst hm
  obtain ⟨h1, h2, ⟨v1, v2⟩, v3, v4, v5⟩ := h
  have c1 : Can 4294967296 ds := ⟨d1, v1⟩
  have c2 : Can 4294967296 es := ⟨d2, v3⟩
  have n1 : IsNat w (.slice p ds.length K) (val 4294967296 ds) := ⟨ds, at1.nums, c1, rfl⟩
  have n2 : IsNat w (.slice p' es.length K') (val 4294967296 es) := ⟨es, at2.nums, c2, rfl⟩
  have b1 := nb_len c1 h1
  have b2 := nb_len c2 h2
  cases b with
  | false =>
    refine ⟨⟨(val 4294967296 ds : Nat), val 4294967296 es, v4, by simpa [Nat.Coprime] using v5⟩, negB_neg (by show ¬ (((val 4294967296 ds : Nat) : Int) < 0); omega), ⟨by simpa using b1, b2⟩, by simpa using n1, n2⟩
  | true =>
    have h0 : val 4294967296 ds ≠ 0 := fun e => v2 rfl (c1.eq_nil (by decide) e)
    refine ⟨⟨-((val 4294967296 ds : Nat) : Int), val 4294967296 es, v4, by simpa [Nat.Coprime] using v5⟩, negB_pos (by show -((val 4294967296 ds : Nat) : Int) < 0; omega), ⟨by simpa using b1, b2⟩, by simpa using n1, n2⟩
theorem near_all {a : Rat} (h0 : a ≠ 0) {t d n : Nat} (ht : TailIs a.den t) (hd : a.den / 2 ^ t = d) (hn : 2 ≤ n) (yl yh : Rat) (hl : nearV a.num d t n false = yl) (hh : nearV a.num d t n true = yh) :
    yl ≤ a ∧ a ≤ yh ∧ (yl = a ↔ yh = a) ∧ (yh - yl) * (((2 ^ (n - 2) : Nat) : Int) : Rat) ≤ a.abs := by
  have hden0 := a.den_nz
  obtain ⟨dm, hdm⟩ : ∃ m : Nat, d = 2 * m + 1 ∧ a.den = 2 ^ t * d := by
    rcases ht with ⟨h, _⟩ | ⟨m, hm⟩
    · exact absurd h hden0
    · refine ⟨m, ?_, ?_⟩
      · rw [← hd, hm, Nat.mul_div_cancel_left _ (Nat.two_pow_pos t)]
      · rw [← hd, hm, Nat.mul_div_cancel_left _ (Nat.two_pow_pos t)]
  have hd0 : d ≠ 0 := by omega
  have hnum0 : a.num.natAbs ≠ 0 := by have := num_ne h0; omega
  obtain ⟨hP1, hP2, hP3⟩ := nbits_spec hnum0
  obtain ⟨hQ1, hQ2, hQ3⟩ := nbits_spec hd0
  have hbase : a * ((d : Int) : Rat) = dq a.num (-(t : Int)) := by
    have h1 : a * ((a.den : Int) : Rat) = (a.num : Rat) := by
      have e1 := Rat.num_divInt_den a
      rw [Rat.divInt_eq_div] at e1
      have e2 : ((a.den : Int) : Rat) ≠ 0 := by
        intro e
        have : (a.den : Int) = 0 := Rat.intCast_eq_zero_iff.1 e
        omega
      have e3 : (a.num : Rat) / ((a.den : Int) : Rat) * ((a.den : Int) : Rat) = (a.num : Rat) := Rat.div_mul_cancel e2
      rw [e1] at e3
      exact e3
    have h2 : ((a.den : Int) : Rat) = (((2 ^ t : Nat) : Int) : Rat) * ((d : Int) : Rat) := by rw [hdm.2, Int.natCast_mul, Rat.intCast_mul]
    have h3 : (((2 ^ t : Nat) : Int) : Rat) * (2 : Rat) ^ (-(t : Int)) = 1 := by
      rw [pow_nat, ← Rat.zpow_add two_ne, show (t : Int) + -(t : Int) = 0 by omega]; rfl
    unfold dq
    rw [← h1, h2]
    grind
  unfold nearV at hl hh
  generalize nbits a.num.natAbs = P at *
  generalize nbits d = Q at *
  by_cases hsh : P ≤ n + Q
  · obtain ⟨g, hg⟩ : ∃ g : Nat, (n : Int) + (Q : Int) - (P : Int) = (g : Int) := ⟨n + Q - P, by omega⟩
    rw [hg, show ((g : Int)).toNat = g from rfl, show (-(g : Int)).toNat = 0 by omega, Nat.pow_zero, show (d : Int) * ((1 : Nat) : Int) = (d : Int) by simp] at hl hh
    have hNa : (a.num * ((2 ^ g : Nat) : Int)).natAbs = a.num.natAbs * 2 ^ g := by rw [Int.natAbs_mul, Int.natAbs_natCast]
    refine near_core (D := d) (by omega) (f := -(g : Int) - (t : Int)) ?_ hn ?_ ?_ yl yh hl hh
    · rw [dq_shift, hbase]; congr 1; omega
    · rw [hNa]
      calc a.num.natAbs * 2 ^ g < 2 ^ P * 2 ^ g := Nat.mul_lt_mul_of_pos_right hP3 (Nat.two_pow_pos g)
        _ = 2 ^ (Q - 1) * 2 ^ (n + 1) := by rw [← Nat.pow_add, ← Nat.pow_add]; congr 1; omega
        _ ≤ d * 2 ^ (n + 1) := Nat.mul_le_mul_right _ hQ2
    · rw [hNa]
      calc d * 2 ^ (n - 1) ≤ 2 ^ Q * 2 ^ (n - 1) := Nat.mul_le_mul_right _ (Nat.le_of_lt hQ3)
        _ = 2 ^ (P - 1) * 2 ^ g := by rw [← Nat.pow_add, ← Nat.pow_add]; congr 1; omega
        _ ≤ a.num.natAbs * 2 ^ g := Nat.mul_le_mul_right _ hP2
  · obtain ⟨g, hg⟩ : ∃ g : Nat, (n : Int) + (Q : Int) - (P : Int) = -(g : Int) := ⟨P - (n + Q), by omega⟩
    rw [hg, show (-(g : Int)).toNat = 0 by omega, show (-(-(g : Int))).toNat = g by omega, Nat.pow_zero, show a.num * ((1 : Nat) : Int) = a.num by simp, show (d : Int) * ((2 ^ g : Nat) : Int) = ((d * 2 ^ g : Nat) : Int) by simp, show -(-(g : Int)) = (g : Int) by omega] at hl hh
    refine near_core (D := d * 2 ^ g) (Nat.mul_pos (by omega) (Nat.two_pow_pos g)) (f := (g : Int) - (t : Int)) ?_ hn ?_ ?_ yl yh hl hh
    · rw [Int.natCast_mul, Rat.intCast_mul, ← Rat.mul_assoc, hbase, pow_nat]
      unfold dq
      rw [Rat.mul_assoc, ← Rat.zpow_add two_ne]
      congr 2; omega
    · calc a.num.natAbs < 2 ^ P := hP3
        _ = 2 ^ (Q - 1) * 2 ^ g * 2 ^ (n + 1) := by rw [← Nat.pow_add, ← Nat.pow_add]; congr 1; omega
        _ ≤ d * 2 ^ g * 2 ^ (n + 1) := Nat.mul_le_mul_right _ (Nat.mul_le_mul_right _ hQ2)
    · calc d * 2 ^ g * 2 ^ (n - 1) ≤ 2 ^ Q * 2 ^ g * 2 ^ (n - 1) := Nat.mul_le_mul_right _ (Nat.mul_le_mul_right _ (Nat.le_of_lt hQ3))
        _ = 2 ^ (P - 1) := by rw [← Nat.pow_add, ← Nat.pow_add]; congr 1; omega
        _ ≤ a.num.natAbs := hP2
end Go.Proofs.YtcdmojefheipoaaGreatDoor
