/-
  girdlelaw05.fit, few; what may be tried, as a number. dyad.Make and Check of numbers of any power; girdlelaw05.few.
-/
import Derived.Test.YtkokimlgofimmaaDoorM20

namespace Go.Proofs.YtkokimlgofimmaaDoor
open Go.RowKit

/-- A number that is tried: short, and as it should stand. -/
def TriedD (k : Nat) (E : Int) (b : Bool) (ds : List Nat) (e : Int) : Prop := ds.length ≤ k ∧ (-E ≤ e ∧ e ≤ E) ∧ ValidD b ds e

set_option maxRecDepth 100000 in
set_option maxHeartbeats 4000000 in
theorem dfit_any (g n : Nat) (B : Nat → Bool) (P : Nat → Option Addr) (K : Nat → Nat) (D : Nat → List Nat) (X : Nat → Int) (w : World) (hT : Tab w) (hg : g < w.heap.size) (hn : n ≤ 1000)
    (hs : ∀ j, j < n → w.cell? ⟨g, j * 3, none⟩ = some (.bool (B j)) ∧ w.cell? ⟨g, j * 3 + 1, none⟩ = some (.slice (P j) (D j).length (K j)) ∧ w.cell? ⟨g, j * 3 + 2, none⟩ = some (.int .i64 (X j)) ∧ At .u32 w (P j) (K j) (D j) ∧ Dig 4294967296 (D j)) :
    Calls Tryd.prog 16 #[.slice (some ⟨g, 0, none⟩) n n] w fun e w' => (∃ b, e = .returned (.bool b) ∧ Hid (b = true → ∀ j, j < n → TriedD 15 300 (B j) (D j) (X j))) ∧ Below w.heap.size w w' := by
  have HS := Lib.hid hs
  have HT := Lib.hid hT
  clear hs hT
  have S := St.start w
  try simp only [List.cons_append, List.nil_append] at S
  go_enter Tryd.func16, Tryd.ntmps16
  go_wp2_with fail
  go_loopw [7] (fun si wr => ∃ k : Nat, k ≤ n ∧ si = .int .i64 k ∧ Hid (∀ j, j < k → TriedD 15 300 (B j) (D j) (X j)) ∧ St w wr []) (fun si _ => n - (intOf si).toNat)
  case atStart => exact ⟨0, by omega, rfl, fun j hj => by omega, S⟩
  case round =>
    obtain ⟨k, hk, rfl, hz, S⟩ := hrel
    by_cases hlt : k < n
    · have a0 := (S.below.cell (p := ⟨g, k * 3, none⟩) hg).trans (HS.out k hlt).1
      have a1 := (S.below.cell (p := ⟨g, k * 3 + 1, none⟩) hg).trans (HS.out k hlt).2.1
      have a2 := (S.below.cell (p := ⟨g, k * 3 + 2, none⟩) hg).trans (HS.out k hlt).2.2.1
      have at1 := (HS.out k hlt).2.2.2.1.below S.below (Nat.le_refl _)
      have HD := Lib.hid (HS.out k hlt).2.2.2.2
      have HL := Lib.hid hlt
      have hki : (k : Int) < ((n : Nat) : Int) := by omega
      obtain ⟨l, hl⟩ : ∃ l, (D k).length = l := ⟨_, rfl⟩
      obtain ⟨x, hx⟩ : ∃ x, X k = x := ⟨_, rfl⟩
      have HL2 := Lib.hid (And.intro hl hx)
      rw [hl] at a1
      rw [hx] at a2
      clear hl hx hlt
      by_cases h20 : 15 < l
      · have h20' : (15 : Int) < (l : Int) := by omega
        have H := S.hnew 30 [.bool (B k), .slice (P k) l (K k), .int .i64 x]
        replace S := S.alloc 30 [.bool (B k), .slice (P k) l (K k), .int .i64 x] (wr.heap.size)
        try simp only [List.cons_append, List.nil_append] at S
        clear H
        have c0_0 := S.c 0 0 rfl rfl
        have c0_1 := S.c 0 1 rfl rfl
        have c0_2 := S.c 0 2 rfl rfl
        go_wp2_with fail
        go_ret
        first | exact ⟨⟨false, rfl, fun h => by cases h⟩, S.below⟩ | exact ⟨.inl ⟨rfl, fun _ => trivial⟩, S.below⟩ | exact ⟨.inl ⟨rfl, Lib.hid trivial⟩, S.below⟩ | exact ⟨.inl rfl, S.below⟩
      · have h20' : ¬ (15 : Int) < (l : Int) := by omega
        by_cases h21 : 300 < x
        ·
          have H := S.hnew 30 [.bool (B k), .slice (P k) l (K k), .int .i64 x]
          replace S := S.alloc 30 [.bool (B k), .slice (P k) l (K k), .int .i64 x] (wr.heap.size)
          try simp only [List.cons_append, List.nil_append] at S
          clear H
          have c0_0 := S.c 0 0 rfl rfl
          have c0_1 := S.c 0 1 rfl rfl
          have c0_2 := S.c 0 2 rfl rfl
          go_wp2_with fail
          go_ret
          first | exact ⟨⟨false, rfl, fun h => by cases h⟩, S.below⟩ | exact ⟨.inl ⟨rfl, fun _ => trivial⟩, S.below⟩ | exact ⟨.inl ⟨rfl, Lib.hid trivial⟩, S.below⟩ | exact ⟨.inl rfl, S.below⟩
        · by_cases h22 : x < -300
          ·
            have H := S.hnew 30 [.bool (B k), .slice (P k) l (K k), .int .i64 x]
            replace S := S.alloc 30 [.bool (B k), .slice (P k) l (K k), .int .i64 x] (wr.heap.size)
            try simp only [List.cons_append, List.nil_append] at S
            clear H
            have c0_0 := S.c 0 0 rfl rfl
            have c0_1 := S.c 0 1 rfl rfl
            have c0_2 := S.c 0 2 rfl rfl
            go_wp2_with fail
            go_ret
            first | exact ⟨⟨false, rfl, fun h => by cases h⟩, S.below⟩ | exact ⟨.inl ⟨rfl, fun _ => trivial⟩, S.below⟩ | exact ⟨.inl ⟨rfl, Lib.hid trivial⟩, S.below⟩ | exact ⟨.inl rfl, S.below⟩
          · have HX := Lib.hid (And.intro h20 (And.intro h21 h22))
            have H := S.hnew 30 [.bool (B k), .slice (P k) l (K k), .int .i64 x]
            replace S := S.alloc 30 [.bool (B k), .slice (P k) l (K k), .int .i64 x] (wr.heap.size)
            try simp only [List.cons_append, List.nil_append] at S
            replace at1 := at1.hold H
            clear H
            have c0_0 := S.c 0 0 rfl rfl
            have c0_1 := S.c 0 1 rfl rfl
            have c0_2 := S.c 0 2 rfl rfl
            go_wp2_with fail
            clear c0_0 c0_1 c0_2
            refine (S.call (dcheck_raw (B k) (P k) (K k) l (D k) x _ (HT.out.below S.below) at1 HD.out HL2.out.1 (by omega))).mono ?_
            clear S
            rintro e w1 ⟨⟨c, rfl, hc⟩, S, H⟩
            replace at1 := at1.hold H
            clear H
            have c0_0 := S.c 0 0 rfl rfl
            have c0_1 := S.c 0 1 rfl rfl
            have c0_2 := S.c 0 2 rfl rfl
            by_cases h0 : c = 0
            · have h0' : (c != 0) = false := by rw [h0]; rfl
              have hv := hc.out h0
              have HV := Lib.hid (show TriedD 15 300 (B k) (D k) (X k) from ⟨by have := HX.out.1; rw [HL2.out.1]; omega, by have := HX.out.2; rw [HL2.out.2]; omega, by rw [HL2.out.2]; exact hv⟩)
              clear h0 hc hv
              go_wp2_with fail
              replace S := S.take 0 (L := []) rfl
              go_roundw
              case rel =>
                refine ⟨k + 1, HL.out, by go_num, fun j hj => ?_, S⟩
                by_cases hjk : j = k
                · rw [hjk]; exact HV.out
                · exact hz.out j (by omega)
              case measure => have := HL.out; simp [intOf]; omega
            · have h0' : (c != 0) = true := by simpa using h0
              clear h0 hc
              go_wp2_with fail
              go_ret
              first | exact ⟨⟨false, rfl, fun h => by cases h⟩, S.below⟩ | exact ⟨.inl ⟨rfl, fun _ => trivial⟩, S.below⟩ | exact ⟨.inl ⟨rfl, Lib.hid trivial⟩, S.below⟩ | exact ⟨.inl rfl, S.below⟩
    · have hge : ¬ (k : Int) < ((n : Nat) : Int) := by omega
      have HZ : ∀ j, j < n → TriedD 15 300 (B j) (D j) (X j) := fun j hj => hz.out j (by omega)
      have HZ := Lib.hid HZ
      clear hlt
      go_wp2
      go_ret
      first | exact ⟨⟨true, rfl, fun _ => HZ.out⟩, S.below⟩ | exact ⟨.inr ⟨rfl, HZ⟩, S.below⟩ | exact ⟨.inr ⟨rfl, fun _ => HZ.out⟩, S.below⟩ | exact ⟨.inr rfl, S.below⟩

theorem tried_dy {k : Nat} {E e : Int} {b : Bool} {ds : List Nat} {l : Nat} {p : Option Addr} {K : Nat} {w : World} (h : TriedD k E b ds e) (hd : Dig 4294967296 ds) (hl : ds.length = l) (hat : At .u32 w p K ds) (hE : 0 ≤ E) :
    ∃ (m : Int) (x : Rat), Hid (negB m = b) ∧ IsNat w (.slice p l K) m.natAbs ∧ Hid (DyF m e x E.toNat (32 * k + E.toNat)) := by
  subst hl
  obtain ⟨h1, h2, v1, v2, _, v4⟩ := h
  have hc : Can 4294967296 ds := ⟨hd, v1⟩
  have hb := nb_len hc h1
  have hn : IsNat w (.slice p ds.length K) (val 4294967296 ds) := ⟨ds, hat.nums, hc, rfl⟩
  obtain ⟨m, hm1, hm2⟩ : ∃ z : Int, negB z = b ∧ z.natAbs = val 4294967296 ds := by
    cases b with
    | false => exact ⟨((val 4294967296 ds : Nat) : Int), negB_neg (by omega), by omega⟩
    | true =>
      refine ⟨-((val 4294967296 ds : Nat) : Int), negB_pos ?_, by omega⟩
      have : val 4294967296 ds ≠ 0 := fun e0 => v2 rfl (hc.eq_nil (by decide) e0)
      omega
  refine ⟨m, dq m e, hm1, by rw [hm2]; exact hn, ?_, ?_, rfl⟩
  · rcases v4 with ⟨a, b⟩ | a
    · exact .inl ⟨by omega, b⟩
    · exact .inr (by omega)
  · exact ZF.of (n := 32 * k) (by rw [hm2]; exact nb_pb hb (Nat.le_refl _)) (by omega) (by omega)

section
variable {w W : World} {L : List (Nat × TypeId × List Value)} {b : Nat} {t : TypeId} {b0 b1 : Bool} {p0 p1 : Option Addr} {l0 l1 K0 K1 : Nat} {x0 x1 : Int}
theorem draws2 (S : St w W L) (i : Nat) {ds0 ds1 : List Nat} (hi : L[i]? = some (b, t, [.bool b0, .slice p0 l0 K0, .int .i64 x0, .bool b1, .slice p1 l1 K1, .int .i64 x1])) (e0 : ds0.length = l0) (e1 : ds1.length = l1)
    (a0 : At .u32 W p0 K0 ds0) (a1 : At .u32 W p1 K1 ds1) (d0 : Dig 4294967296 ds0) (d1 : Dig 4294967296 ds1) :
    ∀ j, j < 2 → W.cell? ⟨b, j * 3, none⟩ = some (.bool ([b0, b1].getD j false)) ∧ W.cell? ⟨b, j * 3 + 1, none⟩ = some (.slice ([p0, p1].getD j none) ([ds0, ds1].getD j []).length ([K0, K1].getD j 0)) ∧ W.cell? ⟨b, j * 3 + 2, none⟩ = some (.int .i64 ([x0, x1].getD j 0)) ∧ At .u32 W ([p0, p1].getD j none) ([K0, K1].getD j 0) ([ds0, ds1].getD j []) ∧ Dig 4294967296 ([ds0, ds1].getD j []) := by
  subst e0; subst e1
  intro j hj
  match j, hj with
  | 0, _ => exact ⟨S.c i 0 hi rfl, S.c i 1 hi rfl, S.c i 2 hi rfl, a0, d0⟩
  | 1, _ => exact ⟨S.c i 3 hi rfl, S.c i 4 hi rfl, S.c i 5 hi rfl, a1, d1⟩
theorem draws1 (S : St w W L) (i : Nat) {ds0 : List Nat} (hi : L[i]? = some (b, t, [.bool b0, .slice p0 l0 K0, .int .i64 x0])) (e0 : ds0.length = l0)
    (a0 : At .u32 W p0 K0 ds0) (d0 : Dig 4294967296 ds0) :
    ∀ j, j < 1 → W.cell? ⟨b, j * 3, none⟩ = some (.bool ([b0].getD j false)) ∧ W.cell? ⟨b, j * 3 + 1, none⟩ = some (.slice ([p0].getD j none) ([ds0].getD j []).length ([K0].getD j 0)) ∧ W.cell? ⟨b, j * 3 + 2, none⟩ = some (.int .i64 ([x0].getD j 0)) ∧ At .u32 W ([p0].getD j none) ([K0].getD j 0) ([ds0].getD j []) ∧ Dig 4294967296 ([ds0].getD j []) := by
  subst e0
  intro j hj
  match j, hj with
  | 0, _ => exact ⟨S.c i 0 hi rfl, S.c i 1 hi rfl, S.c i 2 hi rfl, a0, d0⟩
end

end Go.Proofs.YtkokimlgofimmaaDoor

namespace Go.Proofs.YtkokimlgofimmaaDoor
open Go.RowKit

set_option maxRecDepth 100000 in
set_option maxHeartbeats 4000000 in
theorem dmake_nil {va : Value} {e : Int} {w : World} (ha : IsInt w va 0) :
    Calls Tryd.prog 9 #[va, .int .i64 e] w fun ev w' => ev = .returned (.tuple #[.agg #[.bool false, .slice none 0 0, .int .i64 0], .int .i64 0]) ∧ Below w.heap.size w w' := by
  obtain ⟨p1, l1, K1, rfl, n1⟩ := ha
  have S := ((St.start w).alloc 25 [.bool (negB 0), .slice p1 l1 K1] (w.heap.size)).alloc 30 [.bool false, .slice none 0 0, .int .i64 0] (w.heap.size + 1)
  try simp only [List.cons_append, List.nil_append] at S
  replace n1 := n1.hold S.hold
  have c0_0 := S.c 0 0 rfl rfl
  have c0_1 := S.c 0 1 rfl rfl
  have c1_0 := S.c 1 0 rfl rfl
  have c1_1 := S.c 1 1 rfl rfl
  have c1_2 := S.c 1 2 rfl rfl
  go_enter Tryd.func9, Tryd.ntmps9
  go_wp2_with fail
  clear c0_0 c0_1 c1_0 c1_1 c1_2
  refine (S.call (wsign_any (z := 0) (s := 0) ⟨_, _, _, rfl, n1⟩ (lt_maxN (by decide)) rfl)).mono ?_
  clear S
  rintro e w1 ⟨rfl, S, H⟩
  replace n1 := n1.hold H
  clear H
  have c0_0 := S.c 0 0 rfl rfl
  have c0_1 := S.c 0 1 rfl rfl
  have c1_0 := S.c 1 0 rfl rfl
  have c1_1 := S.c 1 1 rfl rfl
  have c1_2 := S.c 1 2 rfl rfl
  have f1_0 := S.f 1 0 rfl
  have H := S.hset 1 0 (.bool false) rfl rfl (by intro q n e; cases e)
  replace S := S.set 1 0 (.bool false) rfl
  replace n1 := n1.hold H
  clear H
  have f1_1 := S.f 1 1 rfl
  have H := S.hset 1 1 (.slice none 0 0) rfl rfl (by intro q n e; cases e)
  replace S := S.set 1 1 (.slice none 0 0) rfl
  replace n1 := n1.hold H
  clear H
  have f1_2 := S.f 1 2 rfl
  have H := S.hset32 1 2 (.int .i64 0) rfl rfl (by intro n e; cases e)
  replace S := S.set 1 2 (.int .i64 0) rfl
  replace n1 := n1.hold32 H
  clear H
  go_wp2_with fail
  have d1_0 := S.c 1 0 rfl rfl
  have d1_1 := S.c 1 1 rfl rfl
  have d1_2 := S.c 1 2 rfl rfl
  exact bodyPost_ret (v := .tuple #[.agg #[.bool false, .slice none 0 0, .int .i64 0], .int .i64 0]) (by simp [results, Tryd.f9, go_sem, d1_0, d1_1, d1_2]) rfl (⟨rfl, S.below⟩)

set_option maxRecDepth 100000 in
set_option maxHeartbeats 4000000 in
/-- Beyond the powers that may be. -/
theorem dmake_range {va : Value} {z e : Int} {w : World} (hT : Tab w) (ha : IsInt w va z) (hz : z.natAbs < maxN) (h0 : z ≠ 0) (t : Nat) (ht : TailIs z.natAbs t) (htl : t ≤ 16384) (h : (e < -65536 ∨ 65536 < e) ∨ (-65536 ≤ e ∧ e ≤ 65536 ∧ 65536 < e + t)) :
    Calls Tryd.prog 9 #[va, .int .i64 e] w fun ev w' => ev = .returned (.tuple #[.agg #[.bool false, .slice none 0 0, .int .i64 0], .int .i64 1]) ∧ Below w.heap.size w w' := by
  obtain ⟨p1, l1, K1, rfl, n1⟩ := ha
  obtain ⟨b1, hb1⟩ : ∃ b1, negB z = b1 := ⟨_, rfl⟩
  rw [hb1]
  obtain ⟨s, hs⟩ : ∃ s, z.sign = s := ⟨_, rfl⟩
  have hs1 : (s == 0) = false := by rw [← hs]; simpa using fun h => h0 (Int.sign_eq_zero_iff_zero.1 h)
  have hz0 : z.natAbs ≠ 0 := by omega
  have HD := Lib.hid (And.intro hT (And.intro hz (And.intro hs (And.intro hb1 (And.intro hz0 ht)))))
  clear hT hz hs hb1 h0 hz0 ht
  rcases h with h | ⟨h1, h2, h3⟩
  · have HE := Lib.hid h
    clear h
    have S := ((St.start w).alloc 25 [.bool b1, .slice p1 l1 K1] (w.heap.size)).alloc 30 [.bool false, .slice none 0 0, .int .i64 0] (w.heap.size + 1)
    try simp only [List.cons_append, List.nil_append] at S
    replace n1 := n1.hold S.hold
    have c0_0 := S.c 0 0 rfl rfl
    have c0_1 := S.c 0 1 rfl rfl
    have c1_0 := S.c 1 0 rfl rfl
    have c1_1 := S.c 1 1 rfl rfl
    have c1_2 := S.c 1 2 rfl rfl
    go_enter Tryd.func9, Tryd.ntmps9
    go_wp2_with fail
    clear c0_0 c0_1 c1_0 c1_1 c1_2
    refine (S.call (wsign_any ⟨_, _, _, by rw [HD.out.2.2.2.1], n1⟩ HD.out.2.1 HD.out.2.2.1)).mono ?_
    clear S
    rintro e w1 ⟨rfl, S, H⟩
    replace n1 := n1.hold H
    clear H
    have c0_0 := S.c 0 0 rfl rfl
    have c0_1 := S.c 0 1 rfl rfl
    have c1_0 := S.c 1 0 rfl rfl
    have c1_1 := S.c 1 1 rfl rfl
    have c1_2 := S.c 1 2 rfl rfl
    go_wp2_with fail
    clear c0_0 c0_1 c1_0 c1_1 c1_2
    refine (S.call (tail_nat' n1 HD.out.2.1 (HD.out.1.below S.below))).mono ?_
    clear S
    rintro e w2 ⟨⟨t', rfl, ht'⟩, S, H⟩
    replace n1 := n1.hold H
    clear H
    have c0_0 := S.c 0 0 rfl rfl
    have c0_1 := S.c 0 1 rfl rfl
    have c1_0 := S.c 1 0 rfl rfl
    have c1_1 := S.c 1 1 rfl rfl
    have c1_2 := S.c 1 2 rfl rfl
    go_wp2_with fail
    clear c0_0 c0_1 c1_0 c1_1 c1_2
    refine (S.call (exp_out e _ HE.out)).mono ?_
    clear S
    rintro e w3 ⟨rfl, S, H⟩
    replace n1 := n1.hold H
    clear H
    have c0_0 := S.c 0 0 rfl rfl
    have c0_1 := S.c 0 1 rfl rfl
    have c1_0 := S.c 1 0 rfl rfl
    have c1_1 := S.c 1 1 rfl rfl
    have c1_2 := S.c 1 2 rfl rfl
    clear c0_0 c0_1 c1_0 c1_1 c1_2
    have c0_0 := S.c 0 0 rfl rfl
    have c0_1 := S.c 0 1 rfl rfl
    have c1_0 := S.c 1 0 rfl rfl
    have c1_1 := S.c 1 1 rfl rfl
    have c1_2 := S.c 1 2 rfl rfl
    have f1_0 := S.f 1 0 rfl
    have H := S.hset 1 0 (.bool false) rfl rfl (by intro q n e; cases e)
    replace S := S.set 1 0 (.bool false) rfl
    replace n1 := n1.hold H
    clear H
    have f1_1 := S.f 1 1 rfl
    have H := S.hset 1 1 (.slice none 0 0) rfl rfl (by intro q n e; cases e)
    replace S := S.set 1 1 (.slice none 0 0) rfl
    replace n1 := n1.hold H
    clear H
    have f1_2 := S.f 1 2 rfl
    have H := S.hset32 1 2 (.int .i64 0) rfl rfl (by intro n e; cases e)
    replace S := S.set 1 2 (.int .i64 0) rfl
    replace n1 := n1.hold32 H
    clear H
    go_wp2_with fail
    have d1_0 := S.c 1 0 rfl rfl
    have d1_1 := S.c 1 1 rfl rfl
    have d1_2 := S.c 1 2 rfl rfl
    exact bodyPost_ret (v := .tuple #[.agg #[.bool false, .slice none 0 0, .int .i64 0], .int .i64 1]) (by simp [results, Tryd.f9, go_sem, d1_0, d1_1, d1_2]) rfl (⟨rfl, S.below⟩)
  · obtain ⟨f, hf⟩ : ∃ f, e + (t : Int) = f := ⟨_, rfl⟩
    have hwr : IntKind.i64.wrap (e + (t : Int)) = f := by rw [wrap_int (by omega) (by omega), hf]
    have HE := Lib.hid (And.intro (And.intro h1 h2) (show f < -65536 ∨ 65536 < f by omega))
    clear h1 h2 h3 hf
    have S := ((St.start w).alloc 25 [.bool b1, .slice p1 l1 K1] (w.heap.size)).alloc 30 [.bool false, .slice none 0 0, .int .i64 0] (w.heap.size + 1)
    try simp only [List.cons_append, List.nil_append] at S
    replace n1 := n1.hold S.hold
    have c0_0 := S.c 0 0 rfl rfl
    have c0_1 := S.c 0 1 rfl rfl
    have c1_0 := S.c 1 0 rfl rfl
    have c1_1 := S.c 1 1 rfl rfl
    have c1_2 := S.c 1 2 rfl rfl
    go_enter Tryd.func9, Tryd.ntmps9
    go_wp2_with fail
    clear c0_0 c0_1 c1_0 c1_1 c1_2
    refine (S.call (wsign_any ⟨_, _, _, by rw [HD.out.2.2.2.1], n1⟩ HD.out.2.1 HD.out.2.2.1)).mono ?_
    clear S
    rintro e w1 ⟨rfl, S, H⟩
    replace n1 := n1.hold H
    clear H
    have c0_0 := S.c 0 0 rfl rfl
    have c0_1 := S.c 0 1 rfl rfl
    have c1_0 := S.c 1 0 rfl rfl
    have c1_1 := S.c 1 1 rfl rfl
    have c1_2 := S.c 1 2 rfl rfl
    go_wp2_with fail
    clear c0_0 c0_1 c1_0 c1_1 c1_2
    refine (S.call (tail_nat' n1 HD.out.2.1 (HD.out.1.below S.below))).mono ?_
    clear S
    rintro e w2 ⟨⟨t', rfl, ht'⟩, S, H⟩
    replace n1 := n1.hold H
    clear H
    have c0_0 := S.c 0 0 rfl rfl
    have c0_1 := S.c 0 1 rfl rfl
    have c1_0 := S.c 1 0 rfl rfl
    have c1_1 := S.c 1 1 rfl rfl
    have c1_2 := S.c 1 2 rfl rfl
    obtain rfl : t' = t := tail_uniq HD.out.2.2.2.2.1 ht'.out HD.out.2.2.2.2.2
    clear ht'
    go_wp2_with fail
    clear c0_0 c0_1 c1_0 c1_1 c1_2
    refine (S.call (exp_in e _ HE.out.1.1 HE.out.1.2)).mono ?_
    clear S
    rintro e w3 ⟨rfl, S, H⟩
    replace n1 := n1.hold H
    clear H
    have c0_0 := S.c 0 0 rfl rfl
    have c0_1 := S.c 0 1 rfl rfl
    have c1_0 := S.c 1 0 rfl rfl
    have c1_1 := S.c 1 1 rfl rfl
    have c1_2 := S.c 1 2 rfl rfl
    go_wp2_with fail
    clear c0_0 c0_1 c1_0 c1_1 c1_2
    refine (S.call (exp_out f _ HE.out.2)).mono ?_
    clear S
    rintro e w4 ⟨rfl, S, H⟩
    replace n1 := n1.hold H
    clear H
    have c0_0 := S.c 0 0 rfl rfl
    have c0_1 := S.c 0 1 rfl rfl
    have c1_0 := S.c 1 0 rfl rfl
    have c1_1 := S.c 1 1 rfl rfl
    have c1_2 := S.c 1 2 rfl rfl
    clear c0_0 c0_1 c1_0 c1_1 c1_2
    have c0_0 := S.c 0 0 rfl rfl
    have c0_1 := S.c 0 1 rfl rfl
    have c1_0 := S.c 1 0 rfl rfl
    have c1_1 := S.c 1 1 rfl rfl
    have c1_2 := S.c 1 2 rfl rfl
    have f1_0 := S.f 1 0 rfl
    have H := S.hset 1 0 (.bool false) rfl rfl (by intro q n e; cases e)
    replace S := S.set 1 0 (.bool false) rfl
    replace n1 := n1.hold H
    clear H
    have f1_1 := S.f 1 1 rfl
    have H := S.hset 1 1 (.slice none 0 0) rfl rfl (by intro q n e; cases e)
    replace S := S.set 1 1 (.slice none 0 0) rfl
    replace n1 := n1.hold H
    clear H
    have f1_2 := S.f 1 2 rfl
    have H := S.hset32 1 2 (.int .i64 0) rfl rfl (by intro n e; cases e)
    replace S := S.set 1 2 (.int .i64 0) rfl
    replace n1 := n1.hold32 H
    clear H
    go_wp2_with fail
    have d1_0 := S.c 1 0 rfl rfl
    have d1_1 := S.c 1 1 rfl rfl
    have d1_2 := S.c 1 2 rfl rfl
    exact bodyPost_ret (v := .tuple #[.agg #[.bool false, .slice none 0 0, .int .i64 0], .int .i64 1]) (by simp [results, Tryd.f9, go_sem, d1_0, d1_1, d1_2]) rfl (⟨rfl, S.below⟩)

set_option maxRecDepth 100000 in
set_option maxHeartbeats 4000000 in
/-- Of any power that may be. -/
theorem dmake_wide {va : Value} {z e : Int} {w : World} (hT : Tab w) (ha : IsInt w va z) (hz : z.natAbs < maxN) (h0 : z ≠ 0) (t : Nat) (ht : TailIs z.natAbs t) (htl : t ≤ 16384) (he : -65536 ≤ e ∧ e ≤ 65536) (f : Int) (hf : e + (t : Int) = f) (hf2 : f ≤ 65536) (o : Int) (ho : z / 2 ^ t = o) :
    Calls Tryd.prog 9 #[va, .int .i64 e] w fun ev w' => (∃ p l K, ev = .returned (.tuple #[.agg #[.bool (negB o), .slice p l K, .int .i64 f], .int .i64 0]) ∧ IsNat w' (.slice p l K) o.natAbs) ∧ Below w.heap.size w w' := by
  obtain ⟨p1, l1, K1, rfl, n1⟩ := ha
  obtain ⟨b1, hb1⟩ : ∃ b1, negB z = b1 := ⟨_, rfl⟩
  rw [hb1]
  obtain ⟨s, hs⟩ : ∃ s, z.sign = s := ⟨_, rfl⟩
  have hs1 : (s == 0) = false := by rw [← hs]; simpa using fun h => h0 (Int.sign_eq_zero_iff_zero.1 h)
  have hwr : IntKind.i64.wrap (e + (t : Int)) = f := by rw [wrap_int (by omega) (by omega), hf]
  have HD := Lib.hid (And.intro hT (And.intro hz (And.intro hs (And.intro hb1 (And.intro (show z.natAbs ≠ 0 by omega) (And.intro ht (And.intro he (And.intro (show -65536 ≤ f ∧ f ≤ 65536 by omega) (And.intro (show t ≤ 9223372036854775807 by omega) ho)))))))))
  clear hT hz hs hb1 h0 ht he hf hf2 ho htl
  have S := ((St.start w).alloc 25 [.bool b1, .slice p1 l1 K1] (w.heap.size)).alloc 30 [.bool false, .slice none 0 0, .int .i64 0] (w.heap.size + 1)
  try simp only [List.cons_append, List.nil_append] at S
  replace n1 := n1.hold S.hold
  have c0_0 := S.c 0 0 rfl rfl
  have c0_1 := S.c 0 1 rfl rfl
  have c1_0 := S.c 1 0 rfl rfl
  have c1_1 := S.c 1 1 rfl rfl
  have c1_2 := S.c 1 2 rfl rfl
  go_enter Tryd.func9, Tryd.ntmps9
  go_wp2_with fail
  clear c0_0 c0_1 c1_0 c1_1 c1_2
  refine (S.call (wsign_any ⟨_, _, _, by rw [HD.out.2.2.2.1], n1⟩ HD.out.2.1 HD.out.2.2.1)).mono ?_
  clear S
  rintro e w1 ⟨rfl, S, H⟩
  replace n1 := n1.hold H
  clear H
  have c0_0 := S.c 0 0 rfl rfl
  have c0_1 := S.c 0 1 rfl rfl
  have c1_0 := S.c 1 0 rfl rfl
  have c1_1 := S.c 1 1 rfl rfl
  have c1_2 := S.c 1 2 rfl rfl
  go_wp2_with fail
  clear c0_0 c0_1 c1_0 c1_1 c1_2
  refine (S.call (tail_nat' n1 HD.out.2.1 (HD.out.1.below S.below))).mono ?_
  clear S
  rintro e w2 ⟨⟨t', rfl, ht'⟩, S, H⟩
  replace n1 := n1.hold H
  clear H
  have c0_0 := S.c 0 0 rfl rfl
  have c0_1 := S.c 0 1 rfl rfl
  have c1_0 := S.c 1 0 rfl rfl
  have c1_1 := S.c 1 1 rfl rfl
  have c1_2 := S.c 1 2 rfl rfl
  obtain rfl : t' = t := tail_uniq HD.out.2.2.2.2.1 ht'.out HD.out.2.2.2.2.2.1
  clear ht'
  go_wp2_with fail
  clear c0_0 c0_1 c1_0 c1_1 c1_2
  refine (S.call (exp_in e _ HD.out.2.2.2.2.2.2.1.1 HD.out.2.2.2.2.2.2.1.2)).mono ?_
  clear S
  rintro e w3 ⟨rfl, S, H⟩
  replace n1 := n1.hold H
  clear H
  have c0_0 := S.c 0 0 rfl rfl
  have c0_1 := S.c 0 1 rfl rfl
  have c1_0 := S.c 1 0 rfl rfl
  have c1_1 := S.c 1 1 rfl rfl
  have c1_2 := S.c 1 2 rfl rfl
  go_wp2_with fail
  clear c0_0 c0_1 c1_0 c1_1 c1_2
  refine (S.call (exp_in f _ HD.out.2.2.2.2.2.2.2.1.1 HD.out.2.2.2.2.2.2.2.1.2)).mono ?_
  clear S
  rintro e w4 ⟨rfl, S, H⟩
  replace n1 := n1.hold H
  clear H
  have c0_0 := S.c 0 0 rfl rfl
  have c0_1 := S.c 0 1 rfl rfl
  have c1_0 := S.c 1 0 rfl rfl
  have c1_1 := S.c 1 1 rfl rfl
  have c1_2 := S.c 1 2 rfl rfl
  clear c0_0 c0_1 c1_0 c1_1 c1_2
  have c0_0 := S.c 0 0 rfl rfl
  have c0_1 := S.c 0 1 rfl rfl
  have c1_0 := S.c 1 0 rfl rfl
  have c1_1 := S.c 1 1 rfl rfl
  have c1_2 := S.c 1 2 rfl rfl
  go_wp2_with fail
  clear c0_0 c0_1 c1_0 c1_1 c1_2
  refine (S.call (wright_any (HD.out.1.below S.below) ⟨_, _, _, by rw [HD.out.2.2.2.1], n1⟩ HD.out.2.1 t' HD.out.2.2.2.2.2.2.2.2.1 o HD.out.2.2.2.2.2.2.2.2.2)).mono ?_
  clear S
  rintro e w5 ⟨⟨_, rfl, p, l, K, rfl, no⟩, S, H⟩
  replace n1 := n1.hold H
  clear H
  have c0_0 := S.c 0 0 rfl rfl
  have c0_1 := S.c 0 1 rfl rfl
  have c1_0 := S.c 1 0 rfl rfl
  have c1_1 := S.c 1 1 rfl rfl
  have c1_2 := S.c 1 2 rfl rfl
  have H := S.hnew 25 [.bool (negB o), .slice p l K]
  replace S := S.alloc 25 [.bool (negB o), .slice p l K] (w5.heap.size)
  try simp only [List.cons_append, List.nil_append] at S
  replace n1 := n1.hold H
  replace no := no.hold H
  clear H
  clear c0_0 c0_1 c1_0 c1_1 c1_2
  have c0_0 := S.c 0 0 rfl rfl
  have c0_1 := S.c 0 1 rfl rfl
  have c1_0 := S.c 1 0 rfl rfl
  have c1_1 := S.c 1 1 rfl rfl
  have c1_2 := S.c 1 2 rfl rfl
  have c2_0 := S.c 2 0 rfl rfl
  have c2_1 := S.c 2 1 rfl rfl
  have f1_0 := S.f 1 0 rfl
  have H := S.hset 1 0 (.bool (negB o)) rfl rfl (by intro q n e; cases e)
  replace S := S.set 1 0 (.bool (negB o)) rfl
  replace n1 := n1.hold H
  replace no := no.hold H
  clear H
  have f1_1 := S.f 1 1 rfl
  have H := S.hset 1 1 (.slice p l K) rfl rfl (by intro q n e; cases e)
  replace S := S.set 1 1 (.slice p l K) rfl
  replace n1 := n1.hold H
  replace no := no.hold H
  clear H
  have f1_2 := S.f 1 2 rfl
  have H := S.hset32 1 2 (.int .i64 f) rfl rfl (by intro n e; cases e)
  replace S := S.set 1 2 (.int .i64 f) rfl
  replace n1 := n1.hold32 H
  replace no := no.hold32 H
  clear H
  go_wp2_with fail
  have d1_0 := S.c 1 0 rfl rfl
  have d1_1 := S.c 1 1 rfl rfl
  have d1_2 := S.c 1 2 rfl rfl
  exact bodyPost_ret (v := .tuple #[.agg #[.bool (negB o), .slice p l K, .int .i64 f], .int .i64 0]) (by simp [results, Tryd.f9, go_sem, d1_0, d1_1, d1_2]) rfl (⟨⟨p, l, K, rfl, no⟩, S.below⟩)

set_option maxRecDepth 100000 in
set_option maxHeartbeats 4000000 in
theorem dcheck_wide {b : Bool} {p : Option Addr} {l K : Nat} {m e : Int} {w : World} (hT : Tab w) (hb : Hid (negB m = b)) (nm : IsNat w (.slice p l K) m.natAbs) (hm : m.natAbs < maxN) (h1 : m % 2 = 1) (he : -65536 ≤ e ∧ e ≤ 65536) :
    Calls Tryd.prog 15 #[.agg #[.bool b, .slice p l K, .int .i64 e]] w fun ev w' => ev = .returned (.int .i64 0) ∧ Below w.heap.size w w' := by
  obtain ⟨s, hs⟩ : ∃ s, m.sign = s := ⟨_, rfl⟩
  have hs1 : (s == 0) = false := by
    rw [← hs]
    have hne : m ≠ 0 := by omega
    simpa using hne
  have HD := Lib.hid (And.intro hT (And.intro hm (And.intro hs (And.intro h1 he))))
  clear hT hm hs h1 he
  have S := (St.start w).alloc 30 [.bool b, .slice p l K, .int .i64 e] (w.heap.size)
  try simp only [List.cons_append, List.nil_append] at S
  replace nm := nm.hold S.hold
  have c0_0 := S.c 0 0 rfl rfl
  have c0_1 := S.c 0 1 rfl rfl
  have c0_2 := S.c 0 2 rfl rfl
  go_enter Tryd.func15, Tryd.ntmps15
  go_wp2_with fail
  clear c0_0 c0_1 c0_2
  refine (S.call (wcheck_any ⟨_, _, _, by rw [hb.out], nm⟩ HD.out.2.1)).mono ?_
  clear S
  rintro e w1 ⟨rfl, S, H⟩
  replace nm := nm.hold H
  clear H
  have c0_0 := S.c 0 0 rfl rfl
  have c0_1 := S.c 0 1 rfl rfl
  have c0_2 := S.c 0 2 rfl rfl
  go_wp2_with fail
  clear c0_0 c0_1 c0_2
  refine (S.call (wsign_any ⟨_, _, _, by rw [hb.out], nm⟩ HD.out.2.1 HD.out.2.2.1)).mono ?_
  clear S
  rintro e w2 ⟨rfl, S, H⟩
  replace nm := nm.hold H
  clear H
  have c0_0 := S.c 0 0 rfl rfl
  have c0_1 := S.c 0 1 rfl rfl
  have c0_2 := S.c 0 2 rfl rfl
  go_wp2_with fail
  clear c0_0 c0_1 c0_2
  refine (S.call (exp_in e _ HD.out.2.2.2.2.1 HD.out.2.2.2.2.2)).mono ?_
  clear S
  rintro e w3 ⟨rfl, S, H⟩
  replace nm := nm.hold H
  clear H
  have c0_0 := S.c 0 0 rfl rfl
  have c0_1 := S.c 0 1 rfl rfl
  have c0_2 := S.c 0 2 rfl rfl
  go_wp2_with fail
  clear c0_0 c0_1 c0_2
  refine (S.call (tail_nat' nm HD.out.2.1 (HD.out.1.below S.below))).mono ?_
  clear S
  rintro e w4 ⟨⟨t, rfl, ht⟩, S, H⟩
  replace nm := nm.hold H
  clear H
  have c0_0 := S.c 0 0 rfl rfl
  have c0_1 := S.c 0 1 rfl rfl
  have c0_2 := S.c 0 2 rfl rfl
  obtain rfl := tail_none HD.out.2.2.2.1 ht.out
  clear ht
  go_wp2_with fail
  exact bodyPost_ret (v := .int .i64 0) (by simp [results, Tryd.f15, go_sem]) rfl (⟨rfl, S.below⟩)

set_option maxRecDepth 100000 in
set_option maxHeartbeats 4000000 in
theorem dfew_any {b : Bool} {p : Option Addr} {l K : Nat} {m e : Int} {w : World} (nm : IsNat w (.slice p l K) m.natAbs) (hm : m.natAbs < maxN) (n : Int) (r : Bool) (hr : decide ((nbits m.natAbs : Int) ≤ n) = r) :
    Calls Tryd.prog 26 #[.agg #[.bool b, .slice p l K, .int .i64 e], .int .i64 n] w fun ev w' => ev = .returned (.bool r) ∧ Below w.heap.size w w' := by
  obtain ⟨t, ht⟩ : ∃ t, nbits m.natAbs = t := ⟨_, rfl⟩
  rw [ht] at hr
  have HD := Lib.hid (And.intro hm ht)
  clear hm ht
  have S := (St.start w).alloc 30 [.bool b, .slice p l K, .int .i64 e] (w.heap.size)
  try simp only [List.cons_append, List.nil_append] at S
  replace nm := nm.hold S.hold
  have c0_0 := S.c 0 0 rfl rfl
  have c0_1 := S.c 0 1 rfl rfl
  have c0_2 := S.c 0 2 rfl rfl
  go_enter Tryd.func26, Tryd.ntmps26
  go_wp2_with fail
  clear c0_0 c0_1 c0_2
  refine (S.call (bits_nat nm HD.out.1 HD.out.2)).mono ?_
  clear S
  rintro e w1 ⟨rfl, S, H⟩
  replace nm := nm.hold H
  clear H
  have c0_0 := S.c 0 0 rfl rfl
  have c0_1 := S.c 0 1 rfl rfl
  have c0_2 := S.c 0 2 rfl rfl
  go_wp2_with fail
  exact bodyPost_ret (v := .bool r) (by simp [results, Tryd.f26, go_sem]) rfl (⟨rfl, S.below⟩)

end Go.Proofs.YtkokimlgofimmaaDoor
