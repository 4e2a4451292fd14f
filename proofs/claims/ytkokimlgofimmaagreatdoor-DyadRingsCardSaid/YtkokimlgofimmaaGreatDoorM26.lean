/-
  girdlelaw05.fit, few; what may be tried, as a number.
-/
import Derived.Test.YtkokimlgofimmaaGreatDoorM20

namespace Go.Proofs.YtkokimlgofimmaaGreatDoor
open Go.RowKit

/-- A number that is tried: short, and as it should stand. -/
def TriedD (k : Nat) (E : Int) (b : Bool) (ds : List Nat) (e : Int) : Prop := ds.length ≤ k ∧ (-E ≤ e ∧ e ≤ E) ∧ ValidD b ds e

set_option maxRecDepth 100000 in
set_option maxHeartbeats 4000000 in
theorem dfit_any (g n : Nat) (B : Nat → Bool) (P : Nat → Option Addr) (K : Nat → Nat) (D : Nat → List Nat) (X : Nat → Int) (w : World) (hT : Tab w) (hg : g < w.heap.size) (hn : n ≤ 1000)
    (hs : ∀ j, j < n → w.cell? ⟨g, j * 3, none⟩ = some (.bool (B j)) ∧ w.cell? ⟨g, j * 3 + 1, none⟩ = some (.slice (P j) (D j).length (K j)) ∧ w.cell? ⟨g, j * 3 + 2, none⟩ = some (.int .i64 (X j)) ∧ At .u32 w (P j) (K j) (D j) ∧ Dig 4294967296 (D j)) :
    Calls Tryz.prog 13 #[.slice (some ⟨g, 0, none⟩) n n] w fun e w' => (∃ b, e = .returned (.bool b) ∧ Hid (b = true → ∀ j, j < n → TriedD 15 300 (B j) (D j) (X j))) ∧ Below w.heap.size w w' := by
  have HS := Lib.hid hs
  have HT := Lib.hid hT
  clear hs hT
  have S := St.start w
  try simp only [List.cons_append, List.nil_append] at S
  go_enter Tryz.func13, Tryz.ntmps13
  go_wp2_with fail
  go_loopw [7] (fun si wr => ∃ k : Nat, k ≤ n ∧ si = .int .i64 k ∧ Hid (∀ j, j < k → TriedD 15 300 (B j) (D j) (X j)) ∧ St w wr []) (fun si _ => n - (intOf si).toNat)
  case atStart => exact ⟨0, by omega, rfl, fun j hj => by omega, S⟩
  case round =>
    obtain ⟨k, hk, rfl, hz, S⟩ := hrel
    by_cases hlt : k < n
    · have a0 := (S.below.cell (p := ⟨g, k * 3, none⟩) hg).trans (HS.out k hlt).1
      have a1 := (S.below.cell (p := ⟨g, k * 3 + 1, none⟩) hg).trans (HS.out k hlt).2.1
      have a2 := (S.below.cell (p := ⟨g, k * 3 + 2, none⟩) hg).trans (HS.out k hlt).2.2.1
      have at1 := (HS.out k hlt).2.2.2.1.below S.below (Nat.le_refl _)
      have HD := Lib.hid (HS.out k hlt).2.2.2.2
      have HL := Lib.hid hlt
      have hki : (k : Int) < ((n : Nat) : Int) := by omega
      obtain ⟨l, hl⟩ : ∃ l, (D k).length = l := ⟨_, rfl⟩
      obtain ⟨x, hx⟩ : ∃ x, X k = x := ⟨_, rfl⟩
      have HL2 := Lib.hid (And.intro hl hx)
      rw [hl] at a1
      rw [hx] at a2
      clear hl hx hlt
      by_cases h20 : 15 < l
      · have h20' : (15 : Int) < (l : Int) := by omega
        have H := S.hnew 27 [.bool (B k), .slice (P k) l (K k), .int .i64 x]
        replace S := S.alloc 27 [.bool (B k), .slice (P k) l (K k), .int .i64 x] (wr.heap.size)
        try simp only [List.cons_append, List.nil_append] at S
        clear H
        have c0_0 := S.c 0 0 rfl rfl
        have c0_1 := S.c 0 1 rfl rfl
        have c0_2 := S.c 0 2 rfl rfl
        go_wp2_with fail
        go_ret
        first | exact ⟨⟨false, rfl, fun h => by cases h⟩, S.below⟩ | exact ⟨.inl ⟨rfl, fun _ => trivial⟩, S.below⟩ | exact ⟨.inl ⟨rfl, Lib.hid trivial⟩, S.below⟩ | exact ⟨.inl rfl, S.below⟩
      · have h20' : ¬ (15 : Int) < (l : Int) := by omega
        by_cases h21 : 300 < x
        ·
          have H := S.hnew 27 [.bool (B k), .slice (P k) l (K k), .int .i64 x]
          replace S := S.alloc 27 [.bool (B k), .slice (P k) l (K k), .int .i64 x] (wr.heap.size)
          try simp only [List.cons_append, List.nil_append] at S
          clear H
          have c0_0 := S.c 0 0 rfl rfl
          have c0_1 := S.c 0 1 rfl rfl
          have c0_2 := S.c 0 2 rfl rfl
          go_wp2_with fail
          go_ret
          first | exact ⟨⟨false, rfl, fun h => by cases h⟩, S.below⟩ | exact ⟨.inl ⟨rfl, fun _ => trivial⟩, S.below⟩ | exact ⟨.inl ⟨rfl, Lib.hid trivial⟩, S.below⟩ | exact ⟨.inl rfl, S.below⟩
        · by_cases h22 : x < -300
          ·
            have H := S.hnew 27 [.bool (B k), .slice (P k) l (K k), .int .i64 x]
            replace S := S.alloc 27 [.bool (B k), .slice (P k) l (K k), .int .i64 x] (wr.heap.size)
            try simp only [List.cons_append, List.nil_append] at S
            clear H
            have c0_0 := S.c 0 0 rfl rfl
            have c0_1 := S.c 0 1 rfl rfl
            have c0_2 := S.c 0 2 rfl rfl
            go_wp2_with fail
            go_ret
            first | exact ⟨⟨false, rfl, fun h => by cases h⟩, S.below⟩ | exact ⟨.inl ⟨rfl, fun _ => trivial⟩, S.below⟩ | exact ⟨.inl ⟨rfl, Lib.hid trivial⟩, S.below⟩ | exact ⟨.inl rfl, S.below⟩
          · have HX := Lib.hid (And.intro h20 (And.intro h21 h22))
            have H := S.hnew 27 [.bool (B k), .slice (P k) l (K k), .int .i64 x]
            replace S := S.alloc 27 [.bool (B k), .slice (P k) l (K k), .int .i64 x] (wr.heap.size)
            try simp only [List.cons_append, List.nil_append] at S
            replace at1 := at1.hold H
            clear H
            have c0_0 := S.c 0 0 rfl rfl
            have c0_1 := S.c 0 1 rfl rfl
            have c0_2 := S.c 0 2 rfl rfl
            go_wp2_with fail
            clear c0_0 c0_1 c0_2
            refine (S.call (dcheck_raw (B k) (P k) (K k) l (D k) x _ (HT.out.below S.below) at1 HD.out HL2.out.1 (by omega))).mono ?_
            clear S
            rintro e w1 ⟨⟨c, rfl, hc⟩, S, H⟩
            replace at1 := at1.hold H
            clear H
            have c0_0 := S.c 0 0 rfl rfl
            have c0_1 := S.c 0 1 rfl rfl
            have c0_2 := S.c 0 2 rfl rfl
            by_cases h0 : c = 0
            · have h0' : (c != 0) = false := by rw [h0]; rfl
              have hv := hc.out h0
              have HV := Lib.hid (show TriedD 15 300 (B k) (D k) (X k) from ⟨by have := HX.out.1; rw [HL2.out.1]; omega, by have := HX.out.2; rw [HL2.out.2]; omega, by rw [HL2.out.2]; exact hv⟩)
              clear h0 hc hv
              go_wp2_with fail
              replace S := S.take 0 (L := []) rfl
              go_roundw
              case rel =>
                refine ⟨k + 1, HL.out, by go_num, fun j hj => ?_, S⟩
                by_cases hjk : j = k
                · rw [hjk]; exact HV.out
                · exact hz.out j (by omega)
              case measure => have := HL.out; simp [intOf]; omega
            · have h0' : (c != 0) = true := by simpa using h0
              clear h0 hc
              go_wp2_with fail
              go_ret
              first | exact ⟨⟨false, rfl, fun h => by cases h⟩, S.below⟩ | exact ⟨.inl ⟨rfl, fun _ => trivial⟩, S.below⟩ | exact ⟨.inl ⟨rfl, Lib.hid trivial⟩, S.below⟩ | exact ⟨.inl rfl, S.below⟩
    · have hge : ¬ (k : Int) < ((n : Nat) : Int) := by omega
      have HZ : ∀ j, j < n → TriedD 15 300 (B j) (D j) (X j) := fun j hj => hz.out j (by omega)
      have HZ := Lib.hid HZ
      clear hlt
      go_wp2
      go_ret
      first | exact ⟨⟨true, rfl, fun _ => HZ.out⟩, S.below⟩ | exact ⟨.inr ⟨rfl, HZ⟩, S.below⟩ | exact ⟨.inr ⟨rfl, fun _ => HZ.out⟩, S.below⟩ | exact ⟨.inr rfl, S.below⟩

theorem tried_dy {k : Nat} {E e : Int} {b : Bool} {ds : List Nat} {l : Nat} {p : Option Addr} {K : Nat} {w : World} (h : TriedD k E b ds e) (hd : Dig 4294967296 ds) (hl : ds.length = l) (hat : At .u32 w p K ds) (hE : 0 ≤ E) :
    ∃ (m : Int) (x : Rat), Hid (negB m = b) ∧ IsNat w (.slice p l K) m.natAbs ∧ Hid (DyF m e x E.toNat (32 * k + E.toNat)) := by
  subst hl
  obtain ⟨h1, h2, v1, v2, _, v4⟩ := h
  have hc : Can 4294967296 ds := ⟨hd, v1⟩
  have hb := nb_len hc h1
  have hn : IsNat w (.slice p ds.length K) (val 4294967296 ds) := ⟨ds, hat.nums, hc, rfl⟩
  obtain ⟨m, hm1, hm2⟩ : ∃ z : Int, negB z = b ∧ z.natAbs = val 4294967296 ds := by
    cases b with
    | false => exact ⟨((val 4294967296 ds : Nat) : Int), negB_neg (by omega), by omega⟩
    | true =>
      refine ⟨-((val 4294967296 ds : Nat) : Int), negB_pos ?_, by omega⟩
      have : val 4294967296 ds ≠ 0 := fun e0 => v2 rfl (hc.eq_nil (by decide) e0)
      omega
  refine ⟨m, dq m e, hm1, by rw [hm2]; exact hn, ?_, ?_, rfl⟩
  · rcases v4 with ⟨a, b⟩ | a
    · exact .inl ⟨by omega, b⟩
    · exact .inr (by omega)
  · exact ZF.of (n := 32 * k) (by rw [hm2]; exact nb_pb hb (Nat.le_refl _)) (by omega) (by omega)

section
variable {w W : World} {L : List (Nat × TypeId × List Value)} {b : Nat} {t : TypeId} {b0 b1 : Bool} {p0 p1 : Option Addr} {l0 l1 K0 K1 : Nat} {x0 x1 : Int}
theorem draws2 (S : St w W L) (i : Nat) {ds0 ds1 : List Nat} (hi : L[i]? = some (b, t, [.bool b0, .slice p0 l0 K0, .int .i64 x0, .bool b1, .slice p1 l1 K1, .int .i64 x1])) (e0 : ds0.length = l0) (e1 : ds1.length = l1)
    (a0 : At .u32 W p0 K0 ds0) (a1 : At .u32 W p1 K1 ds1) (d0 : Dig 4294967296 ds0) (d1 : Dig 4294967296 ds1) :
    ∀ j, j < 2 → W.cell? ⟨b, j * 3, none⟩ = some (.bool ([b0, b1].getD j false)) ∧ W.cell? ⟨b, j * 3 + 1, none⟩ = some (.slice ([p0, p1].getD j none) ([ds0, ds1].getD j []).length ([K0, K1].getD j 0)) ∧ W.cell? ⟨b, j * 3 + 2, none⟩ = some (.int .i64 ([x0, x1].getD j 0)) ∧ At .u32 W ([p0, p1].getD j none) ([K0, K1].getD j 0) ([ds0, ds1].getD j []) ∧ Dig 4294967296 ([ds0, ds1].getD j []) := by
  subst e0; subst e1
  intro j hj
  match j, hj with
  | 0, _ => exact ⟨S.c i 0 hi rfl, S.c i 1 hi rfl, S.c i 2 hi rfl, a0, d0⟩
  | 1, _ => exact ⟨S.c i 3 hi rfl, S.c i 4 hi rfl, S.c i 5 hi rfl, a1, d1⟩
theorem draws1 (S : St w W L) (i : Nat) {ds0 : List Nat} (hi : L[i]? = some (b, t, [.bool b0, .slice p0 l0 K0, .int .i64 x0])) (e0 : ds0.length = l0)
    (a0 : At .u32 W p0 K0 ds0) (d0 : Dig 4294967296 ds0) :
    ∀ j, j < 1 → W.cell? ⟨b, j * 3, none⟩ = some (.bool ([b0].getD j false)) ∧ W.cell? ⟨b, j * 3 + 1, none⟩ = some (.slice ([p0].getD j none) ([ds0].getD j []).length ([K0].getD j 0)) ∧ W.cell? ⟨b, j * 3 + 2, none⟩ = some (.int .i64 ([x0].getD j 0)) ∧ At .u32 W ([p0].getD j none) ([K0].getD j 0) ([ds0].getD j []) ∧ Dig 4294967296 ([ds0].getD j []) := by
  subst e0
  intro j hj
  match j, hj with
  | 0, _ => exact ⟨S.c i 0 hi rfl, S.c i 1 hi rfl, S.c i 2 hi rfl, a0, d0⟩
end

end Go.Proofs.YtkokimlgofimmaaGreatDoor
