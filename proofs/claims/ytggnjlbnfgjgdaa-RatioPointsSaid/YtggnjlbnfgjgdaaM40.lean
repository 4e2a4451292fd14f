/-
  A number's digits with a point among them, as plain lists. girdlelaw04.RatioPoints, as a walk: whatever the number and the places, it returns true.
-/
import Derived.Test.YtggnjlbnfgjgdaaM14
import Derived.Test.YtggnjlbnfgjgdaaM29

namespace Go.Proofs.Ytggnjlbnfgjgdaa
open Go.RowKit

theorem wrap_nat (n : Nat) (h : n < 9223372036854775808) : IntKind.i64.wrap (n : Int) = n := by
  rw [show ∀ y, IntKind.i64.wrap y = (y + 9223372036854775808) % 18446744073709551616 - 9223372036854775808 from fun y => by simp [IntKind.wrap, IntKind.bits, IntKind.signed]; omega]
  omega
theorem bs_dot : bs ⟨#[46]⟩ = [46] := rfl
/-- What is read of digits with a point so many places ahead of the end. -/
theorem parse_point {l : List Nat} {n p : Nat} (hd : DD l) (hn : l.length = n) (hp : p < n) (hp1 : 1 ≤ p) (b : Bool) :
    parseR ((if b = true then [45] else []) ++ (l.take (n - p) ++ 46 :: l.drop (n - p))) = (Rat.divInt (if b = true then -((dv l : Nat) : Int) else ((dv l : Nat) : Int)) ((10 ^ p : Nat) : Int), 0) := by
  have hA : DD (l.take (n - p)) := hd.take _
  have hB : DD (l.drop (n - p)) := hd.drop _
  have hlA : (l.take (n - p)).length = n - p := by rw [List.length_take]; omega
  have hlB : (l.drop (n - p)).length = p := by rw [List.length_drop]; omega
  have hAB : l.take (n - p) ++ l.drop (n - p) = l := List.take_append_drop _ _
  generalize l.take (n - p) = A at *
  generalize l.drop (n - p) = B at *
  have hne : A ≠ [] := by intro e; rw [e] at hlA; simp at hlA; omega
  have a0 : ∀ x ∈ A, x ≠ 45 ∧ x ≠ 46 ∧ x ≠ 47 := fun x hx => by have := hA x hx; omega
  have b0 : ∀ x ∈ B, x ≠ 46 ∧ x ≠ 47 := fun x hx => by have := hB x hx; omega
  obtain ⟨s, hs⟩ : ∃ s : List Nat, (if b = true then [45] else []) = s := ⟨_, rfl⟩
  rw [hs]
  have s0 : ∀ x ∈ s, x = 45 := by rw [← hs]; intro x hx; split at hx <;> simp at hx; exact hx
  have n47 : 47 ∉ s ++ (A ++ 46 :: B) := by
    intro h
    rcases List.mem_append.1 h with h | h
    · have := s0 _ h; omega
    · rcases List.mem_append.1 h with h | h
      · exact (a0 _ h).2.2 rfl
      · rcases List.mem_cons.1 h with h | h
        · omega
        · exact (b0 _ h).2 rfl
  have n46 : 46 ∉ s ++ A := by
    intro h
    rcases List.mem_append.1 h with h | h
    · have := s0 _ h; omega
    · exact (a0 _ h).2.1 rfl
  have e1 : s ++ (A ++ 46 :: B) = (s ++ A) ++ 46 :: B := by simp
  have hr : restI (s ++ A) = A ∧ parseI (s ++ A ++ B) = if b = true then -((dv l : Nat) : Int) else ((dv l : Nat) : Int) := by
    cases b with
    | true =>
      have hs' : s = [45] := hs.symm
      subst hs'
      have h45 : ([45] ++ A).head? = some 45 := rfl
      have h46 : ([45] ++ A ++ B).head? = some 45 := rfl
      refine ⟨?_, ?_⟩
      · unfold restI; rw [if_pos h45]; rfl
      · unfold parseI; rw [if_pos h46, if_pos rfl]
        show -((dv (A ++ B) : Nat) : Int) = _
        rw [hAB]
    | false =>
      have hs' : s = [] := hs.symm
      subst hs'
      have h45 : ([] ++ A).head? ≠ some 45 := by
        cases A with
        | nil => exact absurd rfl hne
        | cons x A => have := (a0 x (by simp)).1; simpa using this
      have h46 : ([] ++ A ++ B).head? ≠ some 45 := by
        cases A with
        | nil => exact absurd rfl hne
        | cons x A => have := (a0 x (by simp)).1; simpa using this
      refine ⟨?_, ?_⟩
      · unfold restI; rw [if_neg h45]; rfl
      · unfold parseI; rw [if_neg h46, if_neg (by decide)]
        show ((dv (A ++ B) : Nat) : Int) = _
        rw [hAB]
  unfold parseR
  rw [posOf_of_not n47]
  show (match posOf 46 (s ++ (A ++ 46 :: B)) with | some i => placesOf ((s ++ (A ++ 46 :: B)).take i) ((s ++ (A ++ 46 :: B)).drop (i + 1)) | none => _) = _
  rw [e1, posOf_append B n46]
  show placesOf (((s ++ A) ++ 46 :: B).take (s ++ A).length) (((s ++ A) ++ 46 :: B).drop ((s ++ A).length + 1)) = _
  have e3 : ((s ++ A) ++ 46 :: B).take (s ++ A).length = s ++ A := List.take_left
  have e4 : ((s ++ A) ++ 46 :: B).drop ((s ++ A).length + 1) = B := by
    rw [show (s ++ A).length + 1 = ((s ++ A) ++ [46]).length by simp; omega, show (s ++ A) ++ 46 :: B = ((s ++ A) ++ [46]) ++ B by simp]
    exact List.drop_left
  rw [e3, e4]
  have hp0 : ¬ p = 0 := by omega
  unfold placesOf
  rw [if_neg (by rw [hr.1, onlyB_pos hA hne]; decide), if_neg (by rw [onlyB_pos hB (by intro e; rw [e] at hlB; simp at hlB; omega)]; decide), hr.2, hlB]

theorem parse_pointed {t : ByteArray} {n k p m d : Nat} (hd : DD (bs t)) (hv : dv (bs t) = m) (hn : t.size = n) (hk : n = k + p) (hk0 : 1 ≤ k) (hp1 : 1 ≤ p) (h10 : 10 ^ p = d) :
    parseR (bs (t.extract 0 k ++ ⟨#[46]⟩ ++ t.extract k n)) = (Rat.divInt (m : Int) (d : Int), 0) ∧ parseR (bs (⟨#[45]⟩ ++ (t.extract 0 k ++ ⟨#[46]⟩ ++ t.extract k n))) = (Rat.divInt (-(m : Int)) (d : Int), 0) := by
  have hl : (bs t).length = n := by rw [bs_len]; exact hn
  have e1 : bs (t.extract 0 k) = (bs t).take k := by rw [bs_extract]; simp
  have e2 : bs (t.extract k n) = (bs t).drop k := by rw [bs_extract]; exact List.take_of_length_le (by rw [List.length_drop]; omega)
  have e3 : bs (t.extract 0 k ++ ⟨#[46]⟩ ++ t.extract k n) = (bs t).take k ++ 46 :: (bs t).drop k := by
    rw [bs_add, bs_add, e1, e2, bs_dot, List.append_assoc]; rfl
  have hnp : n - p = k := by omega
  have h1 := parse_point hd hl (p := p) (by omega) hp1 false
  have h2 := parse_point hd hl (p := p) (by omega) hp1 true
  rw [hnp, hv, h10] at h1 h2
  constructor
  · rw [e3]; exact h1
  · rw [bs_add, e3]; exact h2
theorem rat_max {z : Int} {d : Nat} (hz : z.natAbs < maxN) (hd : d < maxN) (h0 : d ≠ 0) : (Rat.divInt z (d : Int)).num.natAbs < maxN ∧ (Rat.divInt z (d : Int)).den < maxN := by
  have h := divInt_le z (d : Int) (by omega)
  rw [Int.natAbs_natCast] at h
  omega
theorem ten_lt {p m : Nat} (hp : p ≤ m) (hm : m = 4900) : 10 ^ p < maxN := by
  have h2 := pow_mono10 hp
  have h3 := ten_max m 49 100 hm rfl rfl
  omega

end Go.Proofs.Ytggnjlbnfgjgdaa

namespace Go.Proofs.Ytggnjlbnfgjgdaa
open Go.RowKit

theorem nb20_tens (a b : Nat) (ha : a = 20) (hb : b = 200) : NB a ≤ 10 ^ b := by subst ha hb; unfold NB; decide +kernel

def strSz : Value → Nat
  | .string s => s.size
  | _ => 0
theorem more_nought {t : ByteArray} {m p : Nat} (h : Hid (DD (bs t) ∧ dv (bs t) = m ∧ t.size ≤ 400 ∧ t.size ≠ 0)) (hp : t.size ≤ p) (hp2 : p ≤ 300) : Hid (DD (bs (⟨#[48]⟩ ++ t)) ∧ dv (bs (⟨#[48]⟩ ++ t)) = m ∧ (⟨#[48]⟩ ++ t : ByteArray).size ≤ 400 ∧ (⟨#[48]⟩ ++ t : ByteArray).size ≠ 0) := by
  have e : bs (⟨#[48]⟩ ++ t) = 48 :: bs t := by rw [bs_add]; rfl
  have h48 : (⟨#[48]⟩ : ByteArray).size = 1 := rfl
  refine Lib.hid ⟨?_, ?_, ?_, ?_⟩
  · rw [e]; intro x hx
    rcases List.mem_cons.1 hx with h1 | h1
    · omega
    · exact h.out.1 x h1
  · rw [e, dv_cons, h.out.2.1]; omega
  · rw [ByteArray.size_append, h48]; omega
  · rw [ByteArray.size_append, h48]; omega

set_option maxRecDepth 100000 in
set_option maxHeartbeats 16000000 in
theorem ratioPoints_any (b1 : Bool) (p1 : Option Addr) (K1 : Nat) (ds1 : List Nat) (places : Int) (w : World) (at1 : At .u32 w p1 K1 ds1) (d1 : Dig 4294967296 ds1) (hk0 : -9223372036854775808 ≤ places) (hk1 : places ≤ 9223372036854775807) :
    Calls Try.prog 7 #[.agg #[.bool b1, .slice p1 ds1.length K1], .int .i64 places] w fun e w' => e = .returned (.bool true) ∧ Below w.heap.size w w' := by
  have HD := Lib.hid d1
  obtain ⟨l1, hl1⟩ : ∃ l, ds1.length = l := ⟨_, rfl⟩
  have HL := Lib.hid hl1
  rw [hl1]
  clear d1 hl1
  have S := (St.start w).alloc 25 [.bool b1, .slice p1 l1 K1] (w.heap.size)
  replace at1 := at1.hold S.hold
  have c0_0 := S.c 0 0 rfl rfl
  have c0_1 := S.c 0 1 rfl rfl
  go_enter Try.func7, Try.ntmps7
  go_wp2_with fail
  clear c0_0 c0_1
  refine (S.call (parts_any _)).mono ?_
  clear S
  rintro e w1 ⟨rfl, S, H⟩
  replace at1 := at1.hold H
  clear H
  have c0_0 := S.c 0 0 rfl rfl
  have c0_1 := S.c 0 1 rfl rfl
  by_cases h20 : 20 < l1
  · have h20' : (20 : Int) < (l1 : Int) := by omega
    go_wp2_with fail
    exact bodyPost_ret (v := .bool true) (by simp [results, Try.f7, go_sem]) rfl (⟨rfl, S.below⟩)
  · have h20' : ¬ (20 : Int) < (l1 : Int) := by omega
    go_wp2_with fail
    clear c0_0 c0_1
    refine (S.call (wcheck_raw b1 p1 K1 l1 ds1 _ at1 HD.out HL.out (by omega))).mono ?_
    clear S
    rintro e w2 ⟨⟨c1, rfl, hc1⟩, S, H⟩
    replace at1 := at1.hold H
    clear H
    have c0_0 := S.c 0 0 rfl rfl
    have c0_1 := S.c 0 1 rfl rfl
    by_cases h0 : c1 = 0
    · have h0' : (c1 != 0) = false := by rw [h0]; rfl
      have T1 := Lib.hid (show Tried3 20 b1 ds1 from ⟨by rw [HL.out]; omega, (hc1.out h0).1, (hc1.out h0).2⟩)
      clear h0 hc1
      by_cases hp1 : places < 1
      ·
        go_wp2_with fail
        exact bodyPost_ret (v := .bool true) (by simp [results, Try.f7, go_sem]) rfl (⟨rfl, S.below⟩)
      · by_cases hp2 : 300 < places
        ·
          go_wp2_with fail
          exact bodyPost_ret (v := .bool true) (by simp [results, Try.f7, go_sem]) rfl (⟨rfl, S.below⟩)
        · obtain ⟨p, hp⟩ : ∃ p : Nat, (p : Int) = places := ⟨places.toNat, by omega⟩
          subst hp
          have hpl : 1 ≤ p ∧ p ≤ 300 := by omega
          have HPL := Lib.hid hpl
          obtain ⟨z, hz, hm, N1⟩ := tried_int T1.out HD.out HL.out at1
          have M1 := Lib.hid hm
          clear at1
          clear T1 hm h20
          obtain ⟨m, hm⟩ : ∃ m, z.natAbs = m := ⟨_, rfl⟩
          have HM := Lib.hid hm
          have N2 := N1
          rw [hm] at N2
          clear hm
          clear c0_0 c0_1
          have c0_0 := S.c 0 0 rfl rfl
          have c0_1 := S.c 0 1 rfl rfl
          go_wp2_with fail
          clear c0_0 c0_1
          refine (S.call (text_sz N2 (by rw [← HM.out]; exact nb_max M1.out (by decide)))).mono ?_
          clear S
          rintro e w3 ⟨⟨s, rfl, hs, ht⟩, S, H⟩
          replace N1 := N1.hold H
          replace N2 := N2.hold H
          clear H
          have c0_0 := S.c 0 0 rfl rfl
          have c0_1 := S.c 0 1 rfl rfl
          clear c0_0 c0_1
          have HT := Lib.hid (show DD (bs s) ∧ dv (bs s) = m ∧ s.size ≤ 400 ∧ s.size ≠ 0 from ⟨ht.out.1, ht.out.2.1, by
            have h1 := text_tens ht.out (k := 200) (by have := nb20_tens 20 200 rfl rfl; have := M1.out; have := HM.out; omega)
            rw [bs_len] at h1; omega, by have := ht.out.pos; rw [bs_len] at this; omega⟩)
          clear hs ht
          go_wp2_with fail
          go_loopw [5] (fun sd wr => ∃ s : ByteArray, sd = .string s ∧ Hid (DD (bs s) ∧ dv (bs s) = m ∧ s.size ≤ 400 ∧ s.size ≠ 0) ∧ w3 = wr) (fun sd _ => 301 - strSz sd)
          case atStart => exact ⟨s, rfl, HT, rfl⟩
          case round =>
            clear HT
            obtain ⟨t, rfl, ht, rfl⟩ := hrel
            have htl : t.size ≤ 400 := ht.out.2.2.1
            by_cases hlt : t.size ≤ p
            · have hlt' : (t.size : Int) ≤ (p : Int) := by omega
              have HLT := Lib.hid hlt
              have h48 : (⟨#[48]⟩ : ByteArray).size = 1 := rfl
              clear hlt
              go_wp2_with fail
              go_roundw
              case rel => exact ⟨⟨#[48]⟩ ++ t, rfl, more_nought ht HLT.out HPL.out.2, by first | rfl | trivial⟩
              case measure => have h1 := HLT.out; have h2 := HPL.out.2; show 301 - (⟨#[48]⟩ ++ t : ByteArray).size < 301 - t.size; rw [ByteArray.size_append, h48]; omega
            · have hlt' : ¬ (t.size : Int) ≤ (p : Int) := by omega
              have HLT := Lib.hid hlt
              obtain ⟨n, hn⟩ : ∃ n, t.size = n := ⟨_, rfl⟩
              obtain ⟨k, hk, hk1⟩ : ∃ k, n = k + p ∧ 1 ≤ k := ⟨n - p, by omega, by omega⟩
              have hkp : (k : Int) ≤ (n : Int) := by omega
              have hwr : IntKind.i64.wrap ((n : Int) - (p : Int)) = (k : Int) := by rw [show (n : Int) - (p : Int) = (k : Int) by omega]; exact wrap_nat k (by omega)
              rw [hn] at hlt'
              have hx1 : (t.extract 0 k).size = k := by rw [ByteArray.size_extract]; omega
              have hx2 : (t.extract k n).size = p := by rw [ByteArray.size_extract]; omega
              have hx3 : (⟨#[46]⟩ : ByteArray).size = 1 := rfl
              have hnl : n ≤ 400 := by omega
              have HK := Lib.hid (And.intro hk (And.intro hk1 hn))
              clear hlt hk
              go_upto_region 8 with fail
              replace N1 := N1.hold (Hold.drew _)
              replace N2 := N2.hold (Hold.drew _)
              replace S := S.drew
              refine wp_region_held_drew (S := fun W => W.cell? ⟨w.heap.size, 0, none⟩ = some (.bool b1) ∧ W.cell? ⟨w.heap.size, 1, none⟩ = some (.slice p1 l1 K1)) (by kernel_rfl) ⟨S.c 0 0 rfl rfl, S.c 0 1 rfl rfl⟩ (fun hS => ?_)
              refine wpAnyH_take (i := 0) (v := ?_) ((List.getElem?_toArray ..).trans rfl) (by kernel_rfl) (by kernel_rfl) (by kernel_rfl) (fun _ _ _ h => h) (Or.inl ⟨rfl, fun W hW => ?_⟩) hS ?_
              rotate_left
              · obtain ⟨hW0, hW1⟩ := hW; go_simp; try first | rfl | (rw [if_neg (by first | omega | (simp only [ByteArray.size_append]; first | omega | (have h1 : (ByteArray.mk #[47]).size = 1 := rfl; omega)))]; try rfl) | kernel_rfl
              try simp only [Act.put, List.setIfInBounds_toArray, List.set_cons_zero, List.set_cons_succ]
              refine wpAnyH_take (i := 1) (v := ?_) ((List.getElem?_toArray ..).trans rfl) (by kernel_rfl) (by kernel_rfl) (by kernel_rfl) (fun _ _ _ h => h) (Or.inl ⟨rfl, fun W hW => ?_⟩) hS ?_
              rotate_left
              · obtain ⟨hW0, hW1⟩ := hW; go_simp; try first | rfl | (rw [if_neg (by first | omega | (simp only [ByteArray.size_append]; first | omega | (have h1 : (ByteArray.mk #[47]).size = 1 := rfl; omega)))]; try rfl) | kernel_rfl
              try simp only [Act.put, List.setIfInBounds_toArray, List.set_cons_zero, List.set_cons_succ]
              refine wpAnyH_take (i := 2) (v := ?_) ((List.getElem?_toArray ..).trans rfl) (by kernel_rfl) (by kernel_rfl) (by kernel_rfl) (fun _ _ _ h => h) (Or.inl ⟨rfl, fun W hW => ?_⟩) hS ?_
              rotate_left
              · obtain ⟨hW0, hW1⟩ := hW; go_simp; try first | rfl | (rw [if_neg (by first | omega | (simp only [ByteArray.size_append]; first | omega | (have h1 : (ByteArray.mk #[47]).size = 1 := rfl; omega)))]; try rfl) | kernel_rfl
              try simp only [Act.put, List.setIfInBounds_toArray, List.set_cons_zero, List.set_cons_succ]
              refine wpAnyH_take (i := 3) (v := ?_) ((List.getElem?_toArray ..).trans rfl) (by kernel_rfl) (by kernel_rfl) (by kernel_rfl) (fun _ _ _ h => h) (Or.inl ⟨rfl, fun W hW => ?_⟩) hS ?_
              rotate_left
              · obtain ⟨hW0, hW1⟩ := hW; go_simp; try first | rfl | (rw [if_neg (by first | omega | (simp only [ByteArray.size_append]; first | omega | (have h1 : (ByteArray.mk #[47]).size = 1 := rfl; omega)))]; try rfl) | kernel_rfl
              try simp only [Act.put, List.setIfInBounds_toArray, List.set_cons_zero, List.set_cons_succ]
              refine wpAnyH_take (i := 4) (v := ?_) ((List.getElem?_toArray ..).trans rfl) (by kernel_rfl) (by kernel_rfl) (by kernel_rfl) (fun _ _ _ h => h) (Or.inl ⟨rfl, fun W hW => ?_⟩) hS ?_
              rotate_left
              · obtain ⟨hW0, hW1⟩ := hW; go_simp; try first | rfl | (rw [if_neg (by first | omega | (simp only [ByteArray.size_append]; first | omega | (have h1 : (ByteArray.mk #[47]).size = 1 := rfl; omega)))]; try rfl) | kernel_rfl
              try simp only [Act.put, List.setIfInBounds_toArray, List.set_cons_zero, List.set_cons_succ]
              refine wpAnyH_take (i := 5) (v := ?_) ((List.getElem?_toArray ..).trans rfl) (by kernel_rfl) (by kernel_rfl) (by kernel_rfl) (fun _ _ _ h => h) (Or.inl ⟨rfl, fun W hW => ?_⟩) hS ?_
              rotate_left
              · obtain ⟨hW0, hW1⟩ := hW; go_simp; try first | rfl | (rw [if_neg (by first | omega | (simp only [ByteArray.size_append]; first | omega | (have h1 : (ByteArray.mk #[47]).size = 1 := rfl; omega)))]; try rfl) | kernel_rfl
              try simp only [Act.put, List.setIfInBounds_toArray, List.set_cons_zero, List.set_cons_succ]
              refine wpAnyH_take (i := 6) (v := ?_) ((List.getElem?_toArray ..).trans rfl) (by kernel_rfl) (by kernel_rfl) (by kernel_rfl) (fun _ _ _ h => h) (Or.inl ⟨rfl, fun W hW => ?_⟩) hS ?_
              rotate_left
              · obtain ⟨hW0, hW1⟩ := hW; go_simp; try first | rfl | (rw [if_neg (by first | omega | (simp only [ByteArray.size_append]; first | omega | (have h1 : (ByteArray.mk #[47]).size = 1 := rfl; omega)))]; try rfl) | kernel_rfl
              try simp only [Act.put, List.setIfInBounds_toArray, List.set_cons_zero, List.set_cons_succ]
              refine wpAnyH_take (i := 7) (v := ?_) ((List.getElem?_toArray ..).trans rfl) (by kernel_rfl) (by kernel_rfl) (by kernel_rfl) (fun _ _ _ h => h) (Or.inl ⟨rfl, fun W hW => ?_⟩) hS ?_
              rotate_left
              · obtain ⟨hW0, hW1⟩ := hW; go_simp; try first | rfl | (rw [if_neg (by first | omega | (simp only [ByteArray.size_append]; first | omega | (have h1 : (ByteArray.mk #[47]).size = 1 := rfl; omega)))]; try rfl) | kernel_rfl
              try simp only [Act.put, List.setIfInBounds_toArray, List.set_cons_zero, List.set_cons_succ]
              refine wpAnyH_take (i := 8) (v := ?_) ((List.getElem?_toArray ..).trans rfl) (by kernel_rfl) (by kernel_rfl) (by kernel_rfl) (fun _ _ _ h => h) (Or.inl ⟨rfl, fun W hW => ?_⟩) hS ?_
              rotate_left
              · obtain ⟨hW0, hW1⟩ := hW; go_simp; try first | rfl | (rw [if_neg (by first | omega | (simp only [ByteArray.size_append]; first | omega | (have h1 : (ByteArray.mk #[47]).size = 1 := rfl; omega)))]; try rfl) | kernel_rfl
              try simp only [Act.put, List.setIfInBounds_toArray, List.set_cons_zero, List.set_cons_succ]
              refine wpAnyH_take (i := 9) (v := ?_) ((List.getElem?_toArray ..).trans rfl) (by kernel_rfl) (by kernel_rfl) (by kernel_rfl) (fun _ _ _ h => h) (Or.inl ⟨rfl, fun W hW => ?_⟩) hS ?_
              rotate_left
              · obtain ⟨hW0, hW1⟩ := hW; go_simp; try first | rfl | (rw [if_neg (by first | omega | (simp only [ByteArray.size_append]; first | omega | (have h1 : (ByteArray.mk #[47]).size = 1 := rfl; omega)))]; try rfl) | kernel_rfl
              try simp only [Act.put, List.setIfInBounds_toArray, List.set_cons_zero, List.set_cons_succ]
              refine wpAnyH_take (i := 10) (v := ?_) ((List.getElem?_toArray ..).trans rfl) (by kernel_rfl) (by kernel_rfl) (by kernel_rfl) (fun _ _ _ h => h) (Or.inl ⟨rfl, fun W hW => ?_⟩) hS ?_
              rotate_left
              · obtain ⟨hW0, hW1⟩ := hW; go_simp; try first | rfl | (rw [if_neg (by first | omega | (simp only [ByteArray.size_append]; first | omega | (have h1 : (ByteArray.mk #[47]).size = 1 := rfl; omega)))]; try rfl) | kernel_rfl
              try simp only [Act.put, List.setIfInBounds_toArray, List.set_cons_zero, List.set_cons_succ]
              refine wpAnyH_take (i := 11) (v := ?_) ((List.getElem?_toArray ..).trans rfl) (by kernel_rfl) (by kernel_rfl) (by kernel_rfl) (fun _ _ _ h => h) (Or.inl ⟨rfl, fun W hW => ?_⟩) hS ?_
              rotate_left
              · obtain ⟨hW0, hW1⟩ := hW; go_simp; try first | rfl | (rw [if_neg (by first | omega | (simp only [ByteArray.size_append]; first | omega | (have h1 : (ByteArray.mk #[47]).size = 1 := rfl; omega)))]; try rfl) | kernel_rfl
              try simp only [Act.put, List.setIfInBounds_toArray, List.set_cons_zero, List.set_cons_succ]
              refine wpAnyH_take (i := 12) (v := ?_) ((List.getElem?_toArray ..).trans rfl) (by kernel_rfl) (by kernel_rfl) (by kernel_rfl) (fun _ _ _ h => h) (Or.inl ⟨rfl, fun W hW => ?_⟩) hS ?_
              rotate_left
              · obtain ⟨hW0, hW1⟩ := hW; go_simp; try first | rfl | (rw [if_neg (by first | omega | (simp only [ByteArray.size_append]; first | omega | (have h1 : (ByteArray.mk #[47]).size = 1 := rfl; omega)))]; try rfl) | kernel_rfl
              try simp only [Act.put, List.setIfInBounds_toArray, List.set_cons_zero, List.set_cons_succ]
              refine wpAnyH_take (i := 13) (v := ?_) ((List.getElem?_toArray ..).trans rfl) (by kernel_rfl) (by kernel_rfl) (by kernel_rfl) (fun _ _ _ h => h) (Or.inl ⟨rfl, fun W hW => ?_⟩) hS ?_
              rotate_left
              · obtain ⟨hW0, hW1⟩ := hW; go_simp; try first | rfl | (rw [if_neg (by first | omega | (simp only [ByteArray.size_append]; first | omega | (have h1 : (ByteArray.mk #[47]).size = 1 := rfl; omega)))]; try rfl) | kernel_rfl
              try simp only [Act.put, List.setIfInBounds_toArray, List.set_cons_zero, List.set_cons_succ]
              refine wpAnyH_ready (rs := [14]) (by kernel_rfl) (by simp) (AllReadyH.cons ((List.getElem?_toArray ..).trans rfl) (fun KK hKK => ?_) AllReadyH.nil)
              go_simp
              refine hKK.out _ _ ⟨S.c 0 0 rfl rfl, S.c 0 1 rfl rfl⟩ (fun hS => ?_)
              clear hKK KK
              try simp only [Act.put, List.setIfInBounds_toArray, List.set_cons_zero, List.set_cons_succ]
              refine wpAnyH_done (by kernel_rfl) ?_ _
              obtain ⟨d, hd⟩ : ∃ d, 10 ^ p = d := ⟨_, rfl⟩
              have hdm : d < maxN := by rw [← hd]; exact ten_lt (m := 4900) (by omega) rfl
              have hd0 : d ≠ 0 := by rw [← hd]; exact Nat.pos_iff_ne_zero.1 (Nat.pow_pos (by decide))
              obtain ⟨q, hq⟩ : ∃ q, Rat.divInt z (d : Int) = q := ⟨_, rfl⟩
              have hzm : z.natAbs < maxN := nb_max M1.out (by decide)
              have HQ := Lib.hid (show q.num.natAbs < maxN ∧ q.den < maxN from hq ▸ rat_max hzm hdm hd0)
              have HP := Lib.hid (parse_pointed ht.out.1 ht.out.2.1 HK.out.2.2 HK.out.1 HK.out.2.1 HPL.out.1 hd)
              have HD2 := Lib.hid (And.intro hd (And.intro hdm (And.intro hd0 (And.intro hq.symm hzm))))
              have hxs : (t.extract 0 k ++ ⟨#[46]⟩ ++ t.extract k n).size ≤ 401 := by rw [ByteArray.size_append, ByteArray.size_append, hx1, hx2, hx3]; have := HK.out.1; omega
              clear hd hdm hd0 hq hzm
              cases b1 with
              | false =>
                have hq2 : parseR (bs (t.extract 0 k ++ ⟨#[46]⟩ ++ t.extract k n)) = (q, 0) := by
                  rw [HP.out.1, HD2.out.2.2.2.1]
                  have h1 := of_decide_eq_false (show decide (z < 0) = false from hz.out)
                  have h2 := HM.out
                  rw [show ((m : Nat) : Int) = z by omega]
                have HS := Lib.hid (And.intro hq2 hxs)
                clear hq2 hxs hx1 hx2 hx3
                obtain ⟨r, hr⟩ : ∃ r, t.extract 0 k ++ ⟨#[46]⟩ ++ t.extract k n = r := ⟨_, rfl⟩
                rw [hr] at HS
                have c0_0 := S.c 0 0 rfl rfl
                have c0_1 := S.c 0 1 rfl rfl
                go_wp2_with fail
                clear c0_0 c0_1
                refine (S.call (rparse_any _ _ (by have := HS.out.2; omega) q 0 HS.out.1)).mono ?_
                clear S
                rintro e w4 ⟨⟨_, rfl, bA, pA, lA, KA, qA, jA, JA, rfl, hA, nA, dA⟩, S, H⟩
                replace N1 := N1.hold H
                replace N2 := N2.hold H
                clear H
                have c0_0 := S.c 0 0 rfl rfl
                have c0_1 := S.c 0 1 rfl rfl
                have H := S.hnew 30 [.bool bA, .slice pA lA KA, .slice qA jA JA]
                replace S := S.alloc 30 [.bool bA, .slice pA lA KA, .slice qA jA JA] (w4.heap.size)
                replace N1 := N1.hold H
                replace N2 := N2.hold H
                replace nA := nA.hold H
                replace dA := dA.hold H
                clear H
                clear c0_0 c0_1
                have c0_0 := S.c 0 0 rfl rfl
                have c0_1 := S.c 0 1 rfl rfl
                have c1_0 := S.c 1 0 rfl rfl
                have c1_1 := S.c 1 1 rfl rfl
                have c1_2 := S.c 1 2 rfl rfl
                go_wp2_with fail
                clear c0_0 c0_1 c1_0 c1_1 c1_2
                refine (S.call (ten_ok p (by have := HPL.out.2; omega) d HD2.out.1 _)).mono ?_
                clear S
                rintro e w5 ⟨⟨vt, rfl, nt⟩, S, H⟩
                replace N1 := N1.hold H
                replace N2 := N2.hold H
                replace nA := nA.hold H
                replace dA := dA.hold H
                clear H
                have c0_0 := S.c 0 0 rfl rfl
                have c0_1 := S.c 0 1 rfl rfl
                have c1_0 := S.c 1 0 rfl rfl
                have c1_1 := S.c 1 1 rfl rfl
                have c1_2 := S.c 1 2 rfl rfl
                go_upto_region 13 with fail
                clear c0_0 c0_1 c1_0 c1_1 c1_2
                go_cut [11, 12] (fun s11 s12 wx => ∃ g11 bB pB lB KB qB jB JB, s11 = .pointer (some ⟨g11, 0, none⟩) ∧ s12 = .int .i64 0 ∧ St w wx [(w.heap.size, 25, [.bool false, .slice p1 l1 K1]), (w4.heap.size, 30, [.bool bA, .slice pA lA KA, .slice qA jA JA]), (g11, 30, [.bool bB, .slice pB lB KB, .slice qB jB JB])] ∧ Hid (negB q.num = bB) ∧ IsNat wx (.slice pB lB KB) q.num.natAbs ∧ IsNat wx (.slice qB jB JB) q.den ∧ Hold w5 wx)
                case first =>
                  have HH := Hold.drew w5
                  replace N1 := N1.hold HH
                  replace N2 := N2.hold HH
                  replace nA := nA.hold HH
                  replace dA := dA.hold HH
                  replace nt := nt.hold HH
                  replace S := S.drew
                  refine wp_region_held_drew (S := fun W => W.cell? ⟨w.heap.size, 0, none⟩ = some (.bool false) ∧ W.cell? ⟨w.heap.size, 1, none⟩ = some (.slice p1 l1 K1)) (by kernel_rfl) ⟨S.c 0 0 rfl rfl, S.c 0 1 rfl rfl⟩ (fun hS => ?_)
                  generalize w5.drew = w6 at S N1 N2 nA dA nt HH hS ⊢
                  refine wpAnyH_take (i := 0) (v := ?_) ((List.getElem?_toArray ..).trans rfl) (by kernel_rfl) (by kernel_rfl) (by kernel_rfl) (fun _ _ _ h => h) (Or.inl ⟨rfl, fun W hW => ?_⟩) hS ?_
                  rotate_left
                  · obtain ⟨hW0, hW1⟩ := hW; go_simp; try first | rfl | (rw [if_neg (by first | omega | (simp only [ByteArray.size_append]; first | omega | (have h1 : (ByteArray.mk #[47]).size = 1 := rfl; omega)))]; try rfl) | kernel_rfl
                  try simp only [Act.put, List.setIfInBounds_toArray, List.set_cons_zero, List.set_cons_succ]
                  refine wpAnyH_take (i := 1) (v := ?_) ((List.getElem?_toArray ..).trans rfl) (by kernel_rfl) (by kernel_rfl) (by kernel_rfl) (fun _ _ _ h => h) (Or.inl ⟨rfl, fun W hW => ?_⟩) hS ?_
                  rotate_left
                  · obtain ⟨hW0, hW1⟩ := hW; go_simp; try first | rfl | (rw [if_neg (by first | omega | (simp only [ByteArray.size_append]; first | omega | (have h1 : (ByteArray.mk #[47]).size = 1 := rfl; omega)))]; try rfl) | kernel_rfl
                  try simp only [Act.put, List.setIfInBounds_toArray, List.set_cons_zero, List.set_cons_succ]
                  refine wpAnyH_ready (rs := [2, 7]) (by kernel_rfl) (by simp) (AllReadyH.cons ((List.getElem?_toArray ..).trans rfl) (fun KK hKK => ?_) (AllReadyH.cons ((List.getElem?_toArray ..).trans rfl) (fun KK hKK => ?_) AllReadyH.nil))
                  ·
                    go_simp
                    clear hS
                    refine (S.call (wnat_any nt HD2.out.2.1 (d : Int) rfl)).mono ?_
                    clear S
                    rintro e w7 ⟨⟨_, rfl, pd, ld, Kd, rfl, nd⟩, S, H⟩
                    replace N1 := N1.hold H
                    replace N2 := N2.hold H
                    replace nA := nA.hold H
                    replace dA := dA.hold H
                    replace nt := nt.hold H
                    replace HH := HH.trans H
                    clear H
                    go_wp2_with fail
                    refine hKK.out _ _ ⟨S.c 0 0 rfl rfl, S.c 0 1 rfl rfl⟩ (fun hS => ?_)
                    clear hKK KK
                    try simp only [Act.put, List.setIfInBounds_toArray, List.set_cons_zero, List.set_cons_succ]
                    refine wpAnyH_ready (rs := [3, 7]) (by kernel_rfl) (by simp) (AllReadyH.cons ((List.getElem?_toArray ..).trans rfl) (fun KK hKK => ?_) (AllReadyH.cons ((List.getElem?_toArray ..).trans rfl) (fun KK hKK => ?_) AllReadyH.nil))
                    ·
                      go_simp
                      clear hS
                      refine (S.call (rmake_any ⟨_, _, _, by rw [hz.out], N1⟩ ⟨_, _, _, rfl, nd⟩ HD2.out.2.2.2.2 (by simpa using HD2.out.2.1) (by have := HD2.out.2.2.1; omega) q HD2.out.2.2.2.1)).mono ?_
                      clear S
                      rintro e w8 ⟨⟨_, rfl, bB, pB, lB, KB, qB, jB, JB, rfl, hB, nB, dB⟩, S, H⟩
                      replace N1 := N1.hold H
                      replace N2 := N2.hold H
                      replace nA := nA.hold H
                      replace dA := dA.hold H
                      replace nt := nt.hold H
                      replace nd := nd.hold H
                      replace HH := HH.trans H
                      clear H
                      go_wp2_with fail
                      refine hKK.out _ _ ⟨S.c 0 0 rfl rfl, S.c 0 1 rfl rfl⟩ (fun hS => ?_)
                      clear hKK KK
                      try simp only [Act.put, List.setIfInBounds_toArray, List.set_cons_zero, List.set_cons_succ]
                      refine wpAnyH_take (i := 4) (v := ?_) ((List.getElem?_toArray ..).trans rfl) (by kernel_rfl) (by kernel_rfl) (by kernel_rfl) (fun _ _ _ h => h) (Or.inl ⟨rfl, fun W hW => ?_⟩) hS ?_
                      rotate_left
                      · obtain ⟨hW0, hW1⟩ := hW; go_simp; try first | rfl | (rw [if_neg (by first | omega | (simp only [ByteArray.size_append]; first | omega | (have h1 : (ByteArray.mk #[47]).size = 1 := rfl; omega)))]; try rfl) | kernel_rfl
                      try simp only [Act.put, List.setIfInBounds_toArray, List.set_cons_zero, List.set_cons_succ]
                      refine wpAnyH_take (i := 5) (v := ?_) ((List.getElem?_toArray ..).trans rfl) (by kernel_rfl) (by kernel_rfl) (by kernel_rfl) (fun _ _ _ h => h) (Or.inl ⟨rfl, fun W hW => ?_⟩) hS ?_
                      rotate_left
                      · obtain ⟨hW0, hW1⟩ := hW; go_simp; try first | rfl | (rw [if_neg (by first | omega | (simp only [ByteArray.size_append]; first | omega | (have h1 : (ByteArray.mk #[47]).size = 1 := rfl; omega)))]; try rfl) | kernel_rfl
                      try simp only [Act.put, List.setIfInBounds_toArray, List.set_cons_zero, List.set_cons_succ]
                      refine wpAnyH_take (i := 6) (v := ?_) ((List.getElem?_toArray ..).trans rfl) (by kernel_rfl) (by kernel_rfl) (by kernel_rfl) (fun _ _ _ h => h) (Or.inl ⟨rfl, fun W hW => ?_⟩) hS ?_
                      rotate_left
                      · obtain ⟨hW0, hW1⟩ := hW; go_simp; try first | rfl | (rw [if_neg (by first | omega | (simp only [ByteArray.size_append]; first | omega | (have h1 : (ByteArray.mk #[47]).size = 1 := rfl; omega)))]; try rfl) | kernel_rfl
                      try simp only [Act.put, List.setIfInBounds_toArray, List.set_cons_zero, List.set_cons_succ]
                      refine wpAnyH_ready (rs := [7]) (by kernel_rfl) (by simp) (AllReadyH.cons ((List.getElem?_toArray ..).trans rfl) (fun KK hKK => ?_) AllReadyH.nil)
                      go_simp
                      clear hS
                      have H := S.hnew 30 [.bool false, .slice none 0 0, .slice none 0 0]
                      replace S := S.alloc 30 [.bool false, .slice none 0 0, .slice none 0 0] (w8.heap.size)
                      replace N1 := N1.hold H
                      replace N2 := N2.hold H
                      replace nA := nA.hold H
                      replace dA := dA.hold H
                      replace nt := nt.hold H
                      replace nd := nd.hold H
                      replace nB := nB.hold H
                      replace dB := dB.hold H
                      replace HH := HH.trans H
                      clear H
                      refine hKK.out _ _ ⟨S.c 0 0 rfl rfl, S.c 0 1 rfl rfl⟩ (fun hS => ?_)
                      generalize (w8.alloc (.cells #[.bool false, .slice none 0 0, .slice none 0 0] 30)) = w9 at S N1 N2 nA dA nt nd nB dB HH hS ⊢
                      clear hKK KK
                      try simp only [Act.put, List.setIfInBounds_toArray, List.set_cons_zero, List.set_cons_succ]
                      refine wpAnyH_ready (rs := [8]) (by kernel_rfl) (by simp) (AllReadyH.cons ((List.getElem?_toArray ..).trans rfl) (fun KK hKK => ?_) AllReadyH.nil)
                      have c0 := S.c 2 0 rfl rfl
                      have f0 := S.f 2 0 rfl
                      have c1 := S.c 2 1 rfl rfl
                      have f1 := S.f 2 1 rfl
                      have c2 := S.c 2 2 rfl rfl
                      have f2 := S.f 2 2 rfl
                      go_simp
                      clear hS c0 f0 c1 f1 c2 f2
                      have H := S.hset 2 0 (.bool bB) rfl rfl (by intro q n e; cases e)
                      replace S := S.set 2 0 (.bool bB) rfl
                      replace N1 := N1.hold H
                      replace N2 := N2.hold H
                      replace nA := nA.hold H
                      replace dA := dA.hold H
                      replace nt := nt.hold H
                      replace nd := nd.hold H
                      replace nB := nB.hold H
                      replace dB := dB.hold H
                      replace HH := HH.trans H
                      clear H
                      have H := S.hset 2 1 (.slice pB lB KB) rfl rfl (by intro q n e; cases e)
                      replace S := S.set 2 1 (.slice pB lB KB) rfl
                      replace N1 := N1.hold H
                      replace N2 := N2.hold H
                      replace nA := nA.hold H
                      replace dA := dA.hold H
                      replace nt := nt.hold H
                      replace nd := nd.hold H
                      replace nB := nB.hold H
                      replace dB := dB.hold H
                      replace HH := HH.trans H
                      clear H
                      have H := S.hset 2 2 (.slice qB jB JB) rfl rfl (by intro q n e; cases e)
                      replace S := S.set 2 2 (.slice qB jB JB) rfl
                      replace N1 := N1.hold H
                      replace N2 := N2.hold H
                      replace nA := nA.hold H
                      replace dA := dA.hold H
                      replace nt := nt.hold H
                      replace nd := nd.hold H
                      replace nB := nB.hold H
                      replace dB := dB.hold H
                      replace HH := HH.trans H
                      clear H
                      refine hKK.out _ _ ⟨S.c 0 0 rfl rfl, S.c 0 1 rfl rfl⟩ (fun hS => ?_)
                      generalize (((w9.setCell ⟨w8.heap.size, 0, none⟩ (.bool bB)).setCell ⟨w8.heap.size, 1, none⟩ (.slice pB lB KB)).setCell ⟨w8.heap.size, 2, none⟩ (.slice qB jB JB)) = w10 at S N1 N2 nA dA nt nd nB dB HH hS ⊢
                      clear hKK KK
                      try simp only [Act.put, List.setIfInBounds_toArray, List.set_cons_zero, List.set_cons_succ]
                      refine wpAnyH_ready (rs := [9]) (by kernel_rfl) (by simp) (AllReadyH.cons ((List.getElem?_toArray ..).trans rfl) (fun KK hKK => ?_) AllReadyH.nil)
                      go_simp
                      refine hKK.out _ _ hS (fun hS => ?_)
                      clear hKK KK
                      try simp only [Act.put, List.setIfInBounds_toArray, List.set_cons_zero, List.set_cons_succ]
                      refine wpAnyH_done (by kernel_rfl) ?_ _
                      go_wp2_with fail
                      go_meet
                      case rel => exact ⟨w8.heap.size, bB, pB, lB, KB, qB, jB, JB, rfl, rfl, S, hB, nB, dB, HH⟩
                    ·
                      go_simp
                      clear hS
                      have H := S.hnew 30 [.bool false, .slice none 0 0, .slice none 0 0]
                      replace S := S.alloc 30 [.bool false, .slice none 0 0, .slice none 0 0] (w7.heap.size)
                      replace N1 := N1.hold H
                      replace N2 := N2.hold H
                      replace nA := nA.hold H
                      replace dA := dA.hold H
                      replace nt := nt.hold H
                      replace nd := nd.hold H
                      replace HH := HH.trans H
                      clear H
                      refine hKK.out _ _ ⟨S.c 0 0 rfl rfl, S.c 0 1 rfl rfl⟩ (fun hS => ?_)
                      generalize (w7.alloc (.cells #[.bool false, .slice none 0 0, .slice none 0 0] 30)) = w11 at S N1 N2 nA dA nt nd HH hS ⊢
                      clear hKK KK
                      try simp only [Act.put, List.setIfInBounds_toArray, List.set_cons_zero, List.set_cons_succ]
                      refine wpAnyH_ready (rs := [3]) (by kernel_rfl) (by simp) (AllReadyH.cons ((List.getElem?_toArray ..).trans rfl) (fun KK hKK => ?_) AllReadyH.nil)
                      go_simp
                      clear hS
                      refine (S.call (rmake_any ⟨_, _, _, by rw [hz.out], N1⟩ ⟨_, _, _, rfl, nd⟩ HD2.out.2.2.2.2 (by simpa using HD2.out.2.1) (by have := HD2.out.2.2.1; omega) q HD2.out.2.2.2.1)).mono ?_
                      clear S
                      rintro e w12 ⟨⟨_, rfl, bB, pB, lB, KB, qB, jB, JB, rfl, hB, nB, dB⟩, S, H⟩
                      replace N1 := N1.hold H
                      replace N2 := N2.hold H
                      replace nA := nA.hold H
                      replace dA := dA.hold H
                      replace nt := nt.hold H
                      replace nd := nd.hold H
                      replace HH := HH.trans H
                      clear H
                      go_wp2_with fail
                      refine hKK.out _ _ ⟨S.c 0 0 rfl rfl, S.c 0 1 rfl rfl⟩ (fun hS => ?_)
                      clear hKK KK
                      try simp only [Act.put, List.setIfInBounds_toArray, List.set_cons_zero, List.set_cons_succ]
                      refine wpAnyH_take (i := 4) (v := ?_) ((List.getElem?_toArray ..).trans rfl) (by kernel_rfl) (by kernel_rfl) (by kernel_rfl) (fun _ _ _ h => h) (Or.inl ⟨rfl, fun W hW => ?_⟩) hS ?_
                      rotate_left
                      · obtain ⟨hW0, hW1⟩ := hW; go_simp; try first | rfl | (rw [if_neg (by first | omega | (simp only [ByteArray.size_append]; first | omega | (have h1 : (ByteArray.mk #[47]).size = 1 := rfl; omega)))]; try rfl) | kernel_rfl
                      try simp only [Act.put, List.setIfInBounds_toArray, List.set_cons_zero, List.set_cons_succ]
                      refine wpAnyH_take (i := 5) (v := ?_) ((List.getElem?_toArray ..).trans rfl) (by kernel_rfl) (by kernel_rfl) (by kernel_rfl) (fun _ _ _ h => h) (Or.inl ⟨rfl, fun W hW => ?_⟩) hS ?_
                      rotate_left
                      · obtain ⟨hW0, hW1⟩ := hW; go_simp; try first | rfl | (rw [if_neg (by first | omega | (simp only [ByteArray.size_append]; first | omega | (have h1 : (ByteArray.mk #[47]).size = 1 := rfl; omega)))]; try rfl) | kernel_rfl
                      try simp only [Act.put, List.setIfInBounds_toArray, List.set_cons_zero, List.set_cons_succ]
                      refine wpAnyH_take (i := 6) (v := ?_) ((List.getElem?_toArray ..).trans rfl) (by kernel_rfl) (by kernel_rfl) (by kernel_rfl) (fun _ _ _ h => h) (Or.inl ⟨rfl, fun W hW => ?_⟩) hS ?_
                      rotate_left
                      · obtain ⟨hW0, hW1⟩ := hW; go_simp; try first | rfl | (rw [if_neg (by first | omega | (simp only [ByteArray.size_append]; first | omega | (have h1 : (ByteArray.mk #[47]).size = 1 := rfl; omega)))]; try rfl) | kernel_rfl
                      try simp only [Act.put, List.setIfInBounds_toArray, List.set_cons_zero, List.set_cons_succ]
                      refine wpAnyH_ready (rs := [8]) (by kernel_rfl) (by simp) (AllReadyH.cons ((List.getElem?_toArray ..).trans rfl) (fun KK hKK => ?_) AllReadyH.nil)
                      have c0 := S.c 2 0 rfl rfl
                      have f0 := S.f 2 0 rfl
                      have c1 := S.c 2 1 rfl rfl
                      have f1 := S.f 2 1 rfl
                      have c2 := S.c 2 2 rfl rfl
                      have f2 := S.f 2 2 rfl
                      go_simp
                      clear hS c0 f0 c1 f1 c2 f2
                      have H := S.hset 2 0 (.bool bB) rfl rfl (by intro q n e; cases e)
                      replace S := S.set 2 0 (.bool bB) rfl
                      replace N1 := N1.hold H
                      replace N2 := N2.hold H
                      replace nA := nA.hold H
                      replace dA := dA.hold H
                      replace nt := nt.hold H
                      replace nd := nd.hold H
                      replace nB := nB.hold H
                      replace dB := dB.hold H
                      replace HH := HH.trans H
                      clear H
                      have H := S.hset 2 1 (.slice pB lB KB) rfl rfl (by intro q n e; cases e)
                      replace S := S.set 2 1 (.slice pB lB KB) rfl
                      replace N1 := N1.hold H
                      replace N2 := N2.hold H
                      replace nA := nA.hold H
                      replace dA := dA.hold H
                      replace nt := nt.hold H
                      replace nd := nd.hold H
                      replace nB := nB.hold H
                      replace dB := dB.hold H
                      replace HH := HH.trans H
                      clear H
                      have H := S.hset 2 2 (.slice qB jB JB) rfl rfl (by intro q n e; cases e)
                      replace S := S.set 2 2 (.slice qB jB JB) rfl
                      replace N1 := N1.hold H
                      replace N2 := N2.hold H
                      replace nA := nA.hold H
                      replace dA := dA.hold H
                      replace nt := nt.hold H
                      replace nd := nd.hold H
                      replace nB := nB.hold H
                      replace dB := dB.hold H
                      replace HH := HH.trans H
                      clear H
                      refine hKK.out _ _ ⟨S.c 0 0 rfl rfl, S.c 0 1 rfl rfl⟩ (fun hS => ?_)
                      generalize (((w12.setCell ⟨w7.heap.size, 0, none⟩ (.bool bB)).setCell ⟨w7.heap.size, 1, none⟩ (.slice pB lB KB)).setCell ⟨w7.heap.size, 2, none⟩ (.slice qB jB JB)) = w13 at S N1 N2 nA dA nt nd nB dB HH hS ⊢
                      clear hKK KK
                      try simp only [Act.put, List.setIfInBounds_toArray, List.set_cons_zero, List.set_cons_succ]
                      refine wpAnyH_ready (rs := [9]) (by kernel_rfl) (by simp) (AllReadyH.cons ((List.getElem?_toArray ..).trans rfl) (fun KK hKK => ?_) AllReadyH.nil)
                      go_simp
                      refine hKK.out _ _ hS (fun hS => ?_)
                      clear hKK KK
                      try simp only [Act.put, List.setIfInBounds_toArray, List.set_cons_zero, List.set_cons_succ]
                      refine wpAnyH_done (by kernel_rfl) ?_ _
                      go_wp2_with fail
                      go_meet
                      case rel => exact ⟨w7.heap.size, bB, pB, lB, KB, qB, jB, JB, rfl, rfl, S, hB, nB, dB, HH⟩
                  ·
                    go_simp
                    clear hS
                    have H := S.hnew 30 [.bool false, .slice none 0 0, .slice none 0 0]
                    replace S := S.alloc 30 [.bool false, .slice none 0 0, .slice none 0 0] (w6.heap.size)
                    replace N1 := N1.hold H
                    replace N2 := N2.hold H
                    replace nA := nA.hold H
                    replace dA := dA.hold H
                    replace nt := nt.hold H
                    replace HH := HH.trans H
                    clear H
                    refine hKK.out _ _ ⟨S.c 0 0 rfl rfl, S.c 0 1 rfl rfl⟩ (fun hS => ?_)
                    generalize (w6.alloc (.cells #[.bool false, .slice none 0 0, .slice none 0 0] 30)) = w14 at S N1 N2 nA dA nt HH hS ⊢
                    clear hKK KK
                    try simp only [Act.put, List.setIfInBounds_toArray, List.set_cons_zero, List.set_cons_succ]
                    refine wpAnyH_ready (rs := [2]) (by kernel_rfl) (by simp) (AllReadyH.cons ((List.getElem?_toArray ..).trans rfl) (fun KK hKK => ?_) AllReadyH.nil)
                    go_simp
                    clear hS
                    refine (S.call (wnat_any nt HD2.out.2.1 (d : Int) rfl)).mono ?_
                    clear S
                    rintro e w15 ⟨⟨_, rfl, pd, ld, Kd, rfl, nd⟩, S, H⟩
                    replace N1 := N1.hold H
                    replace N2 := N2.hold H
                    replace nA := nA.hold H
                    replace dA := dA.hold H
                    replace nt := nt.hold H
                    replace HH := HH.trans H
                    clear H
                    go_wp2_with fail
                    refine hKK.out _ _ ⟨S.c 0 0 rfl rfl, S.c 0 1 rfl rfl⟩ (fun hS => ?_)
                    clear hKK KK
                    try simp only [Act.put, List.setIfInBounds_toArray, List.set_cons_zero, List.set_cons_succ]
                    refine wpAnyH_ready (rs := [3]) (by kernel_rfl) (by simp) (AllReadyH.cons ((List.getElem?_toArray ..).trans rfl) (fun KK hKK => ?_) AllReadyH.nil)
                    go_simp
                    clear hS
                    refine (S.call (rmake_any ⟨_, _, _, by rw [hz.out], N1⟩ ⟨_, _, _, rfl, nd⟩ HD2.out.2.2.2.2 (by simpa using HD2.out.2.1) (by have := HD2.out.2.2.1; omega) q HD2.out.2.2.2.1)).mono ?_
                    clear S
                    rintro e w16 ⟨⟨_, rfl, bB, pB, lB, KB, qB, jB, JB, rfl, hB, nB, dB⟩, S, H⟩
                    replace N1 := N1.hold H
                    replace N2 := N2.hold H
                    replace nA := nA.hold H
                    replace dA := dA.hold H
                    replace nt := nt.hold H
                    replace nd := nd.hold H
                    replace HH := HH.trans H
                    clear H
                    go_wp2_with fail
                    refine hKK.out _ _ ⟨S.c 0 0 rfl rfl, S.c 0 1 rfl rfl⟩ (fun hS => ?_)
                    clear hKK KK
                    try simp only [Act.put, List.setIfInBounds_toArray, List.set_cons_zero, List.set_cons_succ]
                    refine wpAnyH_take (i := 4) (v := ?_) ((List.getElem?_toArray ..).trans rfl) (by kernel_rfl) (by kernel_rfl) (by kernel_rfl) (fun _ _ _ h => h) (Or.inl ⟨rfl, fun W hW => ?_⟩) hS ?_
                    rotate_left
                    · obtain ⟨hW0, hW1⟩ := hW; go_simp; try first | rfl | (rw [if_neg (by first | omega | (simp only [ByteArray.size_append]; first | omega | (have h1 : (ByteArray.mk #[47]).size = 1 := rfl; omega)))]; try rfl) | kernel_rfl
                    try simp only [Act.put, List.setIfInBounds_toArray, List.set_cons_zero, List.set_cons_succ]
                    refine wpAnyH_take (i := 5) (v := ?_) ((List.getElem?_toArray ..).trans rfl) (by kernel_rfl) (by kernel_rfl) (by kernel_rfl) (fun _ _ _ h => h) (Or.inl ⟨rfl, fun W hW => ?_⟩) hS ?_
                    rotate_left
                    · obtain ⟨hW0, hW1⟩ := hW; go_simp; try first | rfl | (rw [if_neg (by first | omega | (simp only [ByteArray.size_append]; first | omega | (have h1 : (ByteArray.mk #[47]).size = 1 := rfl; omega)))]; try rfl) | kernel_rfl
                    try simp only [Act.put, List.setIfInBounds_toArray, List.set_cons_zero, List.set_cons_succ]
                    refine wpAnyH_take (i := 6) (v := ?_) ((List.getElem?_toArray ..).trans rfl) (by kernel_rfl) (by kernel_rfl) (by kernel_rfl) (fun _ _ _ h => h) (Or.inl ⟨rfl, fun W hW => ?_⟩) hS ?_
                    rotate_left
                    · obtain ⟨hW0, hW1⟩ := hW; go_simp; try first | rfl | (rw [if_neg (by first | omega | (simp only [ByteArray.size_append]; first | omega | (have h1 : (ByteArray.mk #[47]).size = 1 := rfl; omega)))]; try rfl) | kernel_rfl
                    try simp only [Act.put, List.setIfInBounds_toArray, List.set_cons_zero, List.set_cons_succ]
                    refine wpAnyH_ready (rs := [8]) (by kernel_rfl) (by simp) (AllReadyH.cons ((List.getElem?_toArray ..).trans rfl) (fun KK hKK => ?_) AllReadyH.nil)
                    have c0 := S.c 2 0 rfl rfl
                    have f0 := S.f 2 0 rfl
                    have c1 := S.c 2 1 rfl rfl
                    have f1 := S.f 2 1 rfl
                    have c2 := S.c 2 2 rfl rfl
                    have f2 := S.f 2 2 rfl
                    go_simp
                    clear hS c0 f0 c1 f1 c2 f2
                    have H := S.hset 2 0 (.bool bB) rfl rfl (by intro q n e; cases e)
                    replace S := S.set 2 0 (.bool bB) rfl
                    replace N1 := N1.hold H
                    replace N2 := N2.hold H
                    replace nA := nA.hold H
                    replace dA := dA.hold H
                    replace nt := nt.hold H
                    replace nd := nd.hold H
                    replace nB := nB.hold H
                    replace dB := dB.hold H
                    replace HH := HH.trans H
                    clear H
                    have H := S.hset 2 1 (.slice pB lB KB) rfl rfl (by intro q n e; cases e)
                    replace S := S.set 2 1 (.slice pB lB KB) rfl
                    replace N1 := N1.hold H
                    replace N2 := N2.hold H
                    replace nA := nA.hold H
                    replace dA := dA.hold H
                    replace nt := nt.hold H
                    replace nd := nd.hold H
                    replace nB := nB.hold H
                    replace dB := dB.hold H
                    replace HH := HH.trans H
                    clear H
                    have H := S.hset 2 2 (.slice qB jB JB) rfl rfl (by intro q n e; cases e)
                    replace S := S.set 2 2 (.slice qB jB JB) rfl
                    replace N1 := N1.hold H
                    replace N2 := N2.hold H
                    replace nA := nA.hold H
                    replace dA := dA.hold H
                    replace nt := nt.hold H
                    replace nd := nd.hold H
                    replace nB := nB.hold H
                    replace dB := dB.hold H
                    replace HH := HH.trans H
                    clear H
                    refine hKK.out _ _ ⟨S.c 0 0 rfl rfl, S.c 0 1 rfl rfl⟩ (fun hS => ?_)
                    generalize (((w16.setCell ⟨w6.heap.size, 0, none⟩ (.bool bB)).setCell ⟨w6.heap.size, 1, none⟩ (.slice pB lB KB)).setCell ⟨w6.heap.size, 2, none⟩ (.slice qB jB JB)) = w17 at S N1 N2 nA dA nt nd nB dB HH hS ⊢
                    clear hKK KK
                    try simp only [Act.put, List.setIfInBounds_toArray, List.set_cons_zero, List.set_cons_succ]
                    refine wpAnyH_ready (rs := [9]) (by kernel_rfl) (by simp) (AllReadyH.cons ((List.getElem?_toArray ..).trans rfl) (fun KK hKK => ?_) AllReadyH.nil)
                    go_simp
                    refine hKK.out _ _ hS (fun hS => ?_)
                    clear hKK KK
                    try simp only [Act.put, List.setIfInBounds_toArray, List.set_cons_zero, List.set_cons_succ]
                    refine wpAnyH_done (by kernel_rfl) ?_ _
                    go_wp2_with fail
                    go_meet
                    case rel => exact ⟨w6.heap.size, bB, pB, lB, KB, qB, jB, JB, rfl, rfl, S, hB, nB, dB, HH⟩
                case rest =>
                  obtain ⟨g11, bB, pB, lB, KB, qB, jB, JB, rfl, rfl, S, hB, nB, dB, HH⟩ := hcut
                  obtain ⟨w18, rfl⟩ : ∃ W : World, W = wc := ⟨_, rfl⟩
                  replace N1 := N1.hold HH
                  replace N2 := N2.hold HH
                  replace nA := nA.hold HH
                  replace dA := dA.hold HH
                  replace nt := nt.hold HH
                  clear HH
                  have c0_0 := S.c 0 0 rfl rfl
                  have c0_1 := S.c 0 1 rfl rfl
                  have c1_0 := S.c 1 0 rfl rfl
                  have c1_1 := S.c 1 1 rfl rfl
                  have c1_2 := S.c 1 2 rfl rfl
                  have c2_0 := S.c 2 0 rfl rfl
                  have c2_1 := S.c 2 1 rfl rfl
                  have c2_2 := S.c 2 2 rfl rfl
                  go_wp2_with fail
                  clear c0_0 c0_1 c1_0 c1_1 c1_2 c2_0 c2_1 c2_2
                  refine (S.call (same_any ⟨bA, pA, lA, KA, qA, jA, JA, rfl, hA, nA, dA⟩ ⟨bB, pB, lB, KB, qB, jB, JB, rfl, hB, nB, dB⟩ HQ.out HQ.out (r := true) (by simp))).mono ?_
                  clear S
                  rintro e w19 ⟨rfl, S, H⟩
                  replace N1 := N1.hold H
                  replace N2 := N2.hold H
                  replace nA := nA.hold H
                  replace dA := dA.hold H
                  replace nt := nt.hold H
                  replace nB := nB.hold H
                  replace dB := dB.hold H
                  clear H
                  have c0_0 := S.c 0 0 rfl rfl
                  have c0_1 := S.c 0 1 rfl rfl
                  have c1_0 := S.c 1 0 rfl rfl
                  have c1_1 := S.c 1 1 rfl rfl
                  have c1_2 := S.c 1 2 rfl rfl
                  have c2_0 := S.c 2 0 rfl rfl
                  have c2_1 := S.c 2 1 rfl rfl
                  have c2_2 := S.c 2 2 rfl rfl
                  go_wp2_with fail
                  exact bodyPost_ret (v := .bool true) (by simp [results, Try.f7, go_sem]) rfl (⟨rfl, S.below⟩)
              | true =>
                have h45 : (⟨#[45]⟩ : ByteArray).size = 1 := rfl
                have hq2 : parseR (bs (⟨#[45]⟩ ++ (t.extract 0 k ++ ⟨#[46]⟩ ++ t.extract k n))) = (q, 0) := by
                  rw [HP.out.2, HD2.out.2.2.2.1]
                  have h1 := of_decide_eq_true (show decide (z < 0) = true from hz.out)
                  have h2 := HM.out
                  rw [show -((m : Nat) : Int) = z by omega]
                have hxt : (⟨#[45]⟩ ++ (t.extract 0 k ++ ⟨#[46]⟩ ++ t.extract k n) : ByteArray).size ≤ 402 := by rw [ByteArray.size_append, h45]; omega
                have HS := Lib.hid (And.intro hq2 hxt)
                clear hq2 hx1 hx2 hx3 hxt
                have c0_0 := S.c 0 0 rfl rfl
                have c0_1 := S.c 0 1 rfl rfl
                go_wp2_with fail
                clear c0_0 c0_1
                refine (S.call (rparse_any _ _ (by have := HS.out.2; omega) q 0 HS.out.1)).mono ?_
                clear S
                rintro e w4 ⟨⟨_, rfl, bA, pA, lA, KA, qA, jA, JA, rfl, hA, nA, dA⟩, S, H⟩
                replace N1 := N1.hold H
                replace N2 := N2.hold H
                clear H
                have c0_0 := S.c 0 0 rfl rfl
                have c0_1 := S.c 0 1 rfl rfl
                have H := S.hnew 30 [.bool bA, .slice pA lA KA, .slice qA jA JA]
                replace S := S.alloc 30 [.bool bA, .slice pA lA KA, .slice qA jA JA] (w4.heap.size)
                replace N1 := N1.hold H
                replace N2 := N2.hold H
                replace nA := nA.hold H
                replace dA := dA.hold H
                clear H
                clear c0_0 c0_1
                have c0_0 := S.c 0 0 rfl rfl
                have c0_1 := S.c 0 1 rfl rfl
                have c1_0 := S.c 1 0 rfl rfl
                have c1_1 := S.c 1 1 rfl rfl
                have c1_2 := S.c 1 2 rfl rfl
                go_wp2_with fail
                clear c0_0 c0_1 c1_0 c1_1 c1_2
                refine (S.call (ten_ok p (by have := HPL.out.2; omega) d HD2.out.1 _)).mono ?_
                clear S
                rintro e w5 ⟨⟨vt, rfl, nt⟩, S, H⟩
                replace N1 := N1.hold H
                replace N2 := N2.hold H
                replace nA := nA.hold H
                replace dA := dA.hold H
                clear H
                have c0_0 := S.c 0 0 rfl rfl
                have c0_1 := S.c 0 1 rfl rfl
                have c1_0 := S.c 1 0 rfl rfl
                have c1_1 := S.c 1 1 rfl rfl
                have c1_2 := S.c 1 2 rfl rfl
                go_upto_region 13 with fail
                clear c0_0 c0_1 c1_0 c1_1 c1_2
                go_cut [11, 12] (fun s11 s12 wx => ∃ g11 bB pB lB KB qB jB JB, s11 = .pointer (some ⟨g11, 0, none⟩) ∧ s12 = .int .i64 0 ∧ St w wx [(w.heap.size, 25, [.bool true, .slice p1 l1 K1]), (w4.heap.size, 30, [.bool bA, .slice pA lA KA, .slice qA jA JA]), (g11, 30, [.bool bB, .slice pB lB KB, .slice qB jB JB])] ∧ Hid (negB q.num = bB) ∧ IsNat wx (.slice pB lB KB) q.num.natAbs ∧ IsNat wx (.slice qB jB JB) q.den ∧ Hold w5 wx)
                case first =>
                  have HH := Hold.drew w5
                  replace N1 := N1.hold HH
                  replace N2 := N2.hold HH
                  replace nA := nA.hold HH
                  replace dA := dA.hold HH
                  replace nt := nt.hold HH
                  replace S := S.drew
                  refine wp_region_held_drew (S := fun W => W.cell? ⟨w.heap.size, 0, none⟩ = some (.bool true) ∧ W.cell? ⟨w.heap.size, 1, none⟩ = some (.slice p1 l1 K1)) (by kernel_rfl) ⟨S.c 0 0 rfl rfl, S.c 0 1 rfl rfl⟩ (fun hS => ?_)
                  generalize w5.drew = w6 at S N1 N2 nA dA nt HH hS ⊢
                  refine wpAnyH_take (i := 0) (v := ?_) ((List.getElem?_toArray ..).trans rfl) (by kernel_rfl) (by kernel_rfl) (by kernel_rfl) (fun _ _ _ h => h) (Or.inl ⟨rfl, fun W hW => ?_⟩) hS ?_
                  rotate_left
                  · obtain ⟨hW0, hW1⟩ := hW; go_simp; try first | rfl | (rw [if_neg (by first | omega | (simp only [ByteArray.size_append]; first | omega | (have h1 : (ByteArray.mk #[47]).size = 1 := rfl; omega)))]; try rfl) | kernel_rfl
                  try simp only [Act.put, List.setIfInBounds_toArray, List.set_cons_zero, List.set_cons_succ]
                  refine wpAnyH_take (i := 1) (v := ?_) ((List.getElem?_toArray ..).trans rfl) (by kernel_rfl) (by kernel_rfl) (by kernel_rfl) (fun _ _ _ h => h) (Or.inl ⟨rfl, fun W hW => ?_⟩) hS ?_
                  rotate_left
                  · obtain ⟨hW0, hW1⟩ := hW; go_simp; try first | rfl | (rw [if_neg (by first | omega | (simp only [ByteArray.size_append]; first | omega | (have h1 : (ByteArray.mk #[47]).size = 1 := rfl; omega)))]; try rfl) | kernel_rfl
                  try simp only [Act.put, List.setIfInBounds_toArray, List.set_cons_zero, List.set_cons_succ]
                  refine wpAnyH_ready (rs := [2, 7]) (by kernel_rfl) (by simp) (AllReadyH.cons ((List.getElem?_toArray ..).trans rfl) (fun KK hKK => ?_) (AllReadyH.cons ((List.getElem?_toArray ..).trans rfl) (fun KK hKK => ?_) AllReadyH.nil))
                  ·
                    go_simp
                    clear hS
                    refine (S.call (wnat_any nt HD2.out.2.1 (d : Int) rfl)).mono ?_
                    clear S
                    rintro e w7 ⟨⟨_, rfl, pd, ld, Kd, rfl, nd⟩, S, H⟩
                    replace N1 := N1.hold H
                    replace N2 := N2.hold H
                    replace nA := nA.hold H
                    replace dA := dA.hold H
                    replace nt := nt.hold H
                    replace HH := HH.trans H
                    clear H
                    go_wp2_with fail
                    refine hKK.out _ _ ⟨S.c 0 0 rfl rfl, S.c 0 1 rfl rfl⟩ (fun hS => ?_)
                    clear hKK KK
                    try simp only [Act.put, List.setIfInBounds_toArray, List.set_cons_zero, List.set_cons_succ]
                    refine wpAnyH_ready (rs := [3, 7]) (by kernel_rfl) (by simp) (AllReadyH.cons ((List.getElem?_toArray ..).trans rfl) (fun KK hKK => ?_) (AllReadyH.cons ((List.getElem?_toArray ..).trans rfl) (fun KK hKK => ?_) AllReadyH.nil))
                    ·
                      go_simp
                      clear hS
                      refine (S.call (rmake_any ⟨_, _, _, by rw [hz.out], N1⟩ ⟨_, _, _, rfl, nd⟩ HD2.out.2.2.2.2 (by simpa using HD2.out.2.1) (by have := HD2.out.2.2.1; omega) q HD2.out.2.2.2.1)).mono ?_
                      clear S
                      rintro e w8 ⟨⟨_, rfl, bB, pB, lB, KB, qB, jB, JB, rfl, hB, nB, dB⟩, S, H⟩
                      replace N1 := N1.hold H
                      replace N2 := N2.hold H
                      replace nA := nA.hold H
                      replace dA := dA.hold H
                      replace nt := nt.hold H
                      replace nd := nd.hold H
                      replace HH := HH.trans H
                      clear H
                      go_wp2_with fail
                      refine hKK.out _ _ ⟨S.c 0 0 rfl rfl, S.c 0 1 rfl rfl⟩ (fun hS => ?_)
                      clear hKK KK
                      try simp only [Act.put, List.setIfInBounds_toArray, List.set_cons_zero, List.set_cons_succ]
                      refine wpAnyH_take (i := 4) (v := ?_) ((List.getElem?_toArray ..).trans rfl) (by kernel_rfl) (by kernel_rfl) (by kernel_rfl) (fun _ _ _ h => h) (Or.inl ⟨rfl, fun W hW => ?_⟩) hS ?_
                      rotate_left
                      · obtain ⟨hW0, hW1⟩ := hW; go_simp; try first | rfl | (rw [if_neg (by first | omega | (simp only [ByteArray.size_append]; first | omega | (have h1 : (ByteArray.mk #[47]).size = 1 := rfl; omega)))]; try rfl) | kernel_rfl
                      try simp only [Act.put, List.setIfInBounds_toArray, List.set_cons_zero, List.set_cons_succ]
                      refine wpAnyH_take (i := 5) (v := ?_) ((List.getElem?_toArray ..).trans rfl) (by kernel_rfl) (by kernel_rfl) (by kernel_rfl) (fun _ _ _ h => h) (Or.inl ⟨rfl, fun W hW => ?_⟩) hS ?_
                      rotate_left
                      · obtain ⟨hW0, hW1⟩ := hW; go_simp; try first | rfl | (rw [if_neg (by first | omega | (simp only [ByteArray.size_append]; first | omega | (have h1 : (ByteArray.mk #[47]).size = 1 := rfl; omega)))]; try rfl) | kernel_rfl
                      try simp only [Act.put, List.setIfInBounds_toArray, List.set_cons_zero, List.set_cons_succ]
                      refine wpAnyH_take (i := 6) (v := ?_) ((List.getElem?_toArray ..).trans rfl) (by kernel_rfl) (by kernel_rfl) (by kernel_rfl) (fun _ _ _ h => h) (Or.inl ⟨rfl, fun W hW => ?_⟩) hS ?_
                      rotate_left
                      · obtain ⟨hW0, hW1⟩ := hW; go_simp; try first | rfl | (rw [if_neg (by first | omega | (simp only [ByteArray.size_append]; first | omega | (have h1 : (ByteArray.mk #[47]).size = 1 := rfl; omega)))]; try rfl) | kernel_rfl
                      try simp only [Act.put, List.setIfInBounds_toArray, List.set_cons_zero, List.set_cons_succ]
                      refine wpAnyH_ready (rs := [7]) (by kernel_rfl) (by simp) (AllReadyH.cons ((List.getElem?_toArray ..).trans rfl) (fun KK hKK => ?_) AllReadyH.nil)
                      go_simp
                      clear hS
                      have H := S.hnew 30 [.bool false, .slice none 0 0, .slice none 0 0]
                      replace S := S.alloc 30 [.bool false, .slice none 0 0, .slice none 0 0] (w8.heap.size)
                      replace N1 := N1.hold H
                      replace N2 := N2.hold H
                      replace nA := nA.hold H
                      replace dA := dA.hold H
                      replace nt := nt.hold H
                      replace nd := nd.hold H
                      replace nB := nB.hold H
                      replace dB := dB.hold H
                      replace HH := HH.trans H
                      clear H
                      refine hKK.out _ _ ⟨S.c 0 0 rfl rfl, S.c 0 1 rfl rfl⟩ (fun hS => ?_)
                      generalize (w8.alloc (.cells #[.bool false, .slice none 0 0, .slice none 0 0] 30)) = w9 at S N1 N2 nA dA nt nd nB dB HH hS ⊢
                      clear hKK KK
                      try simp only [Act.put, List.setIfInBounds_toArray, List.set_cons_zero, List.set_cons_succ]
                      refine wpAnyH_ready (rs := [8]) (by kernel_rfl) (by simp) (AllReadyH.cons ((List.getElem?_toArray ..).trans rfl) (fun KK hKK => ?_) AllReadyH.nil)
                      have c0 := S.c 2 0 rfl rfl
                      have f0 := S.f 2 0 rfl
                      have c1 := S.c 2 1 rfl rfl
                      have f1 := S.f 2 1 rfl
                      have c2 := S.c 2 2 rfl rfl
                      have f2 := S.f 2 2 rfl
                      go_simp
                      clear hS c0 f0 c1 f1 c2 f2
                      have H := S.hset 2 0 (.bool bB) rfl rfl (by intro q n e; cases e)
                      replace S := S.set 2 0 (.bool bB) rfl
                      replace N1 := N1.hold H
                      replace N2 := N2.hold H
                      replace nA := nA.hold H
                      replace dA := dA.hold H
                      replace nt := nt.hold H
                      replace nd := nd.hold H
                      replace nB := nB.hold H
                      replace dB := dB.hold H
                      replace HH := HH.trans H
                      clear H
                      have H := S.hset 2 1 (.slice pB lB KB) rfl rfl (by intro q n e; cases e)
                      replace S := S.set 2 1 (.slice pB lB KB) rfl
                      replace N1 := N1.hold H
                      replace N2 := N2.hold H
                      replace nA := nA.hold H
                      replace dA := dA.hold H
                      replace nt := nt.hold H
                      replace nd := nd.hold H
                      replace nB := nB.hold H
                      replace dB := dB.hold H
                      replace HH := HH.trans H
                      clear H
                      have H := S.hset 2 2 (.slice qB jB JB) rfl rfl (by intro q n e; cases e)
                      replace S := S.set 2 2 (.slice qB jB JB) rfl
                      replace N1 := N1.hold H
                      replace N2 := N2.hold H
                      replace nA := nA.hold H
                      replace dA := dA.hold H
                      replace nt := nt.hold H
                      replace nd := nd.hold H
                      replace nB := nB.hold H
                      replace dB := dB.hold H
                      replace HH := HH.trans H
                      clear H
                      refine hKK.out _ _ ⟨S.c 0 0 rfl rfl, S.c 0 1 rfl rfl⟩ (fun hS => ?_)
                      generalize (((w9.setCell ⟨w8.heap.size, 0, none⟩ (.bool bB)).setCell ⟨w8.heap.size, 1, none⟩ (.slice pB lB KB)).setCell ⟨w8.heap.size, 2, none⟩ (.slice qB jB JB)) = w10 at S N1 N2 nA dA nt nd nB dB HH hS ⊢
                      clear hKK KK
                      try simp only [Act.put, List.setIfInBounds_toArray, List.set_cons_zero, List.set_cons_succ]
                      refine wpAnyH_ready (rs := [9]) (by kernel_rfl) (by simp) (AllReadyH.cons ((List.getElem?_toArray ..).trans rfl) (fun KK hKK => ?_) AllReadyH.nil)
                      go_simp
                      refine hKK.out _ _ hS (fun hS => ?_)
                      clear hKK KK
                      try simp only [Act.put, List.setIfInBounds_toArray, List.set_cons_zero, List.set_cons_succ]
                      refine wpAnyH_done (by kernel_rfl) ?_ _
                      go_wp2_with fail
                      go_meet
                      case rel => exact ⟨w8.heap.size, bB, pB, lB, KB, qB, jB, JB, rfl, rfl, S, hB, nB, dB, HH⟩
                    ·
                      go_simp
                      clear hS
                      have H := S.hnew 30 [.bool false, .slice none 0 0, .slice none 0 0]
                      replace S := S.alloc 30 [.bool false, .slice none 0 0, .slice none 0 0] (w7.heap.size)
                      replace N1 := N1.hold H
                      replace N2 := N2.hold H
                      replace nA := nA.hold H
                      replace dA := dA.hold H
                      replace nt := nt.hold H
                      replace nd := nd.hold H
                      replace HH := HH.trans H
                      clear H
                      refine hKK.out _ _ ⟨S.c 0 0 rfl rfl, S.c 0 1 rfl rfl⟩ (fun hS => ?_)
                      generalize (w7.alloc (.cells #[.bool false, .slice none 0 0, .slice none 0 0] 30)) = w11 at S N1 N2 nA dA nt nd HH hS ⊢
                      clear hKK KK
                      try simp only [Act.put, List.setIfInBounds_toArray, List.set_cons_zero, List.set_cons_succ]
                      refine wpAnyH_ready (rs := [3]) (by kernel_rfl) (by simp) (AllReadyH.cons ((List.getElem?_toArray ..).trans rfl) (fun KK hKK => ?_) AllReadyH.nil)
                      go_simp
                      clear hS
                      refine (S.call (rmake_any ⟨_, _, _, by rw [hz.out], N1⟩ ⟨_, _, _, rfl, nd⟩ HD2.out.2.2.2.2 (by simpa using HD2.out.2.1) (by have := HD2.out.2.2.1; omega) q HD2.out.2.2.2.1)).mono ?_
                      clear S
                      rintro e w12 ⟨⟨_, rfl, bB, pB, lB, KB, qB, jB, JB, rfl, hB, nB, dB⟩, S, H⟩
                      replace N1 := N1.hold H
                      replace N2 := N2.hold H
                      replace nA := nA.hold H
                      replace dA := dA.hold H
                      replace nt := nt.hold H
                      replace nd := nd.hold H
                      replace HH := HH.trans H
                      clear H
                      go_wp2_with fail
                      refine hKK.out _ _ ⟨S.c 0 0 rfl rfl, S.c 0 1 rfl rfl⟩ (fun hS => ?_)
                      clear hKK KK
                      try simp only [Act.put, List.setIfInBounds_toArray, List.set_cons_zero, List.set_cons_succ]
                      refine wpAnyH_take (i := 4) (v := ?_) ((List.getElem?_toArray ..).trans rfl) (by kernel_rfl) (by kernel_rfl) (by kernel_rfl) (fun _ _ _ h => h) (Or.inl ⟨rfl, fun W hW => ?_⟩) hS ?_
                      rotate_left
                      · obtain ⟨hW0, hW1⟩ := hW; go_simp; try first | rfl | (rw [if_neg (by first | omega | (simp only [ByteArray.size_append]; first | omega | (have h1 : (ByteArray.mk #[47]).size = 1 := rfl; omega)))]; try rfl) | kernel_rfl
                      try simp only [Act.put, List.setIfInBounds_toArray, List.set_cons_zero, List.set_cons_succ]
                      refine wpAnyH_take (i := 5) (v := ?_) ((List.getElem?_toArray ..).trans rfl) (by kernel_rfl) (by kernel_rfl) (by kernel_rfl) (fun _ _ _ h => h) (Or.inl ⟨rfl, fun W hW => ?_⟩) hS ?_
                      rotate_left
                      · obtain ⟨hW0, hW1⟩ := hW; go_simp; try first | rfl | (rw [if_neg (by first | omega | (simp only [ByteArray.size_append]; first | omega | (have h1 : (ByteArray.mk #[47]).size = 1 := rfl; omega)))]; try rfl) | kernel_rfl
                      try simp only [Act.put, List.setIfInBounds_toArray, List.set_cons_zero, List.set_cons_succ]
                      refine wpAnyH_take (i := 6) (v := ?_) ((List.getElem?_toArray ..).trans rfl) (by kernel_rfl) (by kernel_rfl) (by kernel_rfl) (fun _ _ _ h => h) (Or.inl ⟨rfl, fun W hW => ?_⟩) hS ?_
                      rotate_left
                      · obtain ⟨hW0, hW1⟩ := hW; go_simp; try first | rfl | (rw [if_neg (by first | omega | (simp only [ByteArray.size_append]; first | omega | (have h1 : (ByteArray.mk #[47]).size = 1 := rfl; omega)))]; try rfl) | kernel_rfl
                      try simp only [Act.put, List.setIfInBounds_toArray, List.set_cons_zero, List.set_cons_succ]
                      refine wpAnyH_ready (rs := [8]) (by kernel_rfl) (by simp) (AllReadyH.cons ((List.getElem?_toArray ..).trans rfl) (fun KK hKK => ?_) AllReadyH.nil)
                      have c0 := S.c 2 0 rfl rfl
                      have f0 := S.f 2 0 rfl
                      have c1 := S.c 2 1 rfl rfl
                      have f1 := S.f 2 1 rfl
                      have c2 := S.c 2 2 rfl rfl
                      have f2 := S.f 2 2 rfl
                      go_simp
                      clear hS c0 f0 c1 f1 c2 f2
                      have H := S.hset 2 0 (.bool bB) rfl rfl (by intro q n e; cases e)
                      replace S := S.set 2 0 (.bool bB) rfl
                      replace N1 := N1.hold H
                      replace N2 := N2.hold H
                      replace nA := nA.hold H
                      replace dA := dA.hold H
                      replace nt := nt.hold H
                      replace nd := nd.hold H
                      replace nB := nB.hold H
                      replace dB := dB.hold H
                      replace HH := HH.trans H
                      clear H
                      have H := S.hset 2 1 (.slice pB lB KB) rfl rfl (by intro q n e; cases e)
                      replace S := S.set 2 1 (.slice pB lB KB) rfl
                      replace N1 := N1.hold H
                      replace N2 := N2.hold H
                      replace nA := nA.hold H
                      replace dA := dA.hold H
                      replace nt := nt.hold H
                      replace nd := nd.hold H
                      replace nB := nB.hold H
                      replace dB := dB.hold H
                      replace HH := HH.trans H
                      clear H
                      have H := S.hset 2 2 (.slice qB jB JB) rfl rfl (by intro q n e; cases e)
                      replace S := S.set 2 2 (.slice qB jB JB) rfl
                      replace N1 := N1.hold H
                      replace N2 := N2.hold H
                      replace nA := nA.hold H
                      replace dA := dA.hold H
                      replace nt := nt.hold H
                      replace nd := nd.hold H
                      replace nB := nB.hold H
                      replace dB := dB.hold H
                      replace HH := HH.trans H
                      clear H
                      refine hKK.out _ _ ⟨S.c 0 0 rfl rfl, S.c 0 1 rfl rfl⟩ (fun hS => ?_)
                      generalize (((w12.setCell ⟨w7.heap.size, 0, none⟩ (.bool bB)).setCell ⟨w7.heap.size, 1, none⟩ (.slice pB lB KB)).setCell ⟨w7.heap.size, 2, none⟩ (.slice qB jB JB)) = w13 at S N1 N2 nA dA nt nd nB dB HH hS ⊢
                      clear hKK KK
                      try simp only [Act.put, List.setIfInBounds_toArray, List.set_cons_zero, List.set_cons_succ]
                      refine wpAnyH_ready (rs := [9]) (by kernel_rfl) (by simp) (AllReadyH.cons ((List.getElem?_toArray ..).trans rfl) (fun KK hKK => ?_) AllReadyH.nil)
                      go_simp
                      refine hKK.out _ _ hS (fun hS => ?_)
                      clear hKK KK
                      try simp only [Act.put, List.setIfInBounds_toArray, List.set_cons_zero, List.set_cons_succ]
                      refine wpAnyH_done (by kernel_rfl) ?_ _
                      go_wp2_with fail
                      go_meet
                      case rel => exact ⟨w7.heap.size, bB, pB, lB, KB, qB, jB, JB, rfl, rfl, S, hB, nB, dB, HH⟩
                  ·
                    go_simp
                    clear hS
                    have H := S.hnew 30 [.bool false, .slice none 0 0, .slice none 0 0]
                    replace S := S.alloc 30 [.bool false, .slice none 0 0, .slice none 0 0] (w6.heap.size)
                    replace N1 := N1.hold H
                    replace N2 := N2.hold H
                    replace nA := nA.hold H
                    replace dA := dA.hold H
                    replace nt := nt.hold H
                    replace HH := HH.trans H
                    clear H
                    refine hKK.out _ _ ⟨S.c 0 0 rfl rfl, S.c 0 1 rfl rfl⟩ (fun hS => ?_)
                    generalize (w6.alloc (.cells #[.bool false, .slice none 0 0, .slice none 0 0] 30)) = w14 at S N1 N2 nA dA nt HH hS ⊢
                    clear hKK KK
                    try simp only [Act.put, List.setIfInBounds_toArray, List.set_cons_zero, List.set_cons_succ]
                    refine wpAnyH_ready (rs := [2]) (by kernel_rfl) (by simp) (AllReadyH.cons ((List.getElem?_toArray ..).trans rfl) (fun KK hKK => ?_) AllReadyH.nil)
                    go_simp
                    clear hS
                    refine (S.call (wnat_any nt HD2.out.2.1 (d : Int) rfl)).mono ?_
                    clear S
                    rintro e w15 ⟨⟨_, rfl, pd, ld, Kd, rfl, nd⟩, S, H⟩
                    replace N1 := N1.hold H
                    replace N2 := N2.hold H
                    replace nA := nA.hold H
                    replace dA := dA.hold H
                    replace nt := nt.hold H
                    replace HH := HH.trans H
                    clear H
                    go_wp2_with fail
                    refine hKK.out _ _ ⟨S.c 0 0 rfl rfl, S.c 0 1 rfl rfl⟩ (fun hS => ?_)
                    clear hKK KK
                    try simp only [Act.put, List.setIfInBounds_toArray, List.set_cons_zero, List.set_cons_succ]
                    refine wpAnyH_ready (rs := [3]) (by kernel_rfl) (by simp) (AllReadyH.cons ((List.getElem?_toArray ..).trans rfl) (fun KK hKK => ?_) AllReadyH.nil)
                    go_simp
                    clear hS
                    refine (S.call (rmake_any ⟨_, _, _, by rw [hz.out], N1⟩ ⟨_, _, _, rfl, nd⟩ HD2.out.2.2.2.2 (by simpa using HD2.out.2.1) (by have := HD2.out.2.2.1; omega) q HD2.out.2.2.2.1)).mono ?_
                    clear S
                    rintro e w16 ⟨⟨_, rfl, bB, pB, lB, KB, qB, jB, JB, rfl, hB, nB, dB⟩, S, H⟩
                    replace N1 := N1.hold H
                    replace N2 := N2.hold H
                    replace nA := nA.hold H
                    replace dA := dA.hold H
                    replace nt := nt.hold H
                    replace nd := nd.hold H
                    replace HH := HH.trans H
                    clear H
                    go_wp2_with fail
                    refine hKK.out _ _ ⟨S.c 0 0 rfl rfl, S.c 0 1 rfl rfl⟩ (fun hS => ?_)
                    clear hKK KK
                    try simp only [Act.put, List.setIfInBounds_toArray, List.set_cons_zero, List.set_cons_succ]
                    refine wpAnyH_take (i := 4) (v := ?_) ((List.getElem?_toArray ..).trans rfl) (by kernel_rfl) (by kernel_rfl) (by kernel_rfl) (fun _ _ _ h => h) (Or.inl ⟨rfl, fun W hW => ?_⟩) hS ?_
                    rotate_left
                    · obtain ⟨hW0, hW1⟩ := hW; go_simp; try first | rfl | (rw [if_neg (by first | omega | (simp only [ByteArray.size_append]; first | omega | (have h1 : (ByteArray.mk #[47]).size = 1 := rfl; omega)))]; try rfl) | kernel_rfl
                    try simp only [Act.put, List.setIfInBounds_toArray, List.set_cons_zero, List.set_cons_succ]
                    refine wpAnyH_take (i := 5) (v := ?_) ((List.getElem?_toArray ..).trans rfl) (by kernel_rfl) (by kernel_rfl) (by kernel_rfl) (fun _ _ _ h => h) (Or.inl ⟨rfl, fun W hW => ?_⟩) hS ?_
                    rotate_left
                    · obtain ⟨hW0, hW1⟩ := hW; go_simp; try first | rfl | (rw [if_neg (by first | omega | (simp only [ByteArray.size_append]; first | omega | (have h1 : (ByteArray.mk #[47]).size = 1 := rfl; omega)))]; try rfl) | kernel_rfl
                    try simp only [Act.put, List.setIfInBounds_toArray, List.set_cons_zero, List.set_cons_succ]
                    refine wpAnyH_take (i := 6) (v := ?_) ((List.getElem?_toArray ..).trans rfl) (by kernel_rfl) (by kernel_rfl) (by kernel_rfl) (fun _ _ _ h => h) (Or.inl ⟨rfl, fun W hW => ?_⟩) hS ?_
                    rotate_left
                    · obtain ⟨hW0, hW1⟩ := hW; go_simp; try first | rfl | (rw [if_neg (by first | omega | (simp only [ByteArray.size_append]; first | omega | (have h1 : (ByteArray.mk #[47]).size = 1 := rfl; omega)))]; try rfl) | kernel_rfl
                    try simp only [Act.put, List.setIfInBounds_toArray, List.set_cons_zero, List.set_cons_succ]
                    refine wpAnyH_ready (rs := [8]) (by kernel_rfl) (by simp) (AllReadyH.cons ((List.getElem?_toArray ..).trans rfl) (fun KK hKK => ?_) AllReadyH.nil)
                    have c0 := S.c 2 0 rfl rfl
                    have f0 := S.f 2 0 rfl
                    have c1 := S.c 2 1 rfl rfl
                    have f1 := S.f 2 1 rfl
                    have c2 := S.c 2 2 rfl rfl
                    have f2 := S.f 2 2 rfl
                    go_simp
                    clear hS c0 f0 c1 f1 c2 f2
                    have H := S.hset 2 0 (.bool bB) rfl rfl (by intro q n e; cases e)
                    replace S := S.set 2 0 (.bool bB) rfl
                    replace N1 := N1.hold H
                    replace N2 := N2.hold H
                    replace nA := nA.hold H
                    replace dA := dA.hold H
                    replace nt := nt.hold H
                    replace nd := nd.hold H
                    replace nB := nB.hold H
                    replace dB := dB.hold H
                    replace HH := HH.trans H
                    clear H
                    have H := S.hset 2 1 (.slice pB lB KB) rfl rfl (by intro q n e; cases e)
                    replace S := S.set 2 1 (.slice pB lB KB) rfl
                    replace N1 := N1.hold H
                    replace N2 := N2.hold H
                    replace nA := nA.hold H
                    replace dA := dA.hold H
                    replace nt := nt.hold H
                    replace nd := nd.hold H
                    replace nB := nB.hold H
                    replace dB := dB.hold H
                    replace HH := HH.trans H
                    clear H
                    have H := S.hset 2 2 (.slice qB jB JB) rfl rfl (by intro q n e; cases e)
                    replace S := S.set 2 2 (.slice qB jB JB) rfl
                    replace N1 := N1.hold H
                    replace N2 := N2.hold H
                    replace nA := nA.hold H
                    replace dA := dA.hold H
                    replace nt := nt.hold H
                    replace nd := nd.hold H
                    replace nB := nB.hold H
                    replace dB := dB.hold H
                    replace HH := HH.trans H
                    clear H
                    refine hKK.out _ _ ⟨S.c 0 0 rfl rfl, S.c 0 1 rfl rfl⟩ (fun hS => ?_)
                    generalize (((w16.setCell ⟨w6.heap.size, 0, none⟩ (.bool bB)).setCell ⟨w6.heap.size, 1, none⟩ (.slice pB lB KB)).setCell ⟨w6.heap.size, 2, none⟩ (.slice qB jB JB)) = w17 at S N1 N2 nA dA nt nd nB dB HH hS ⊢
                    clear hKK KK
                    try simp only [Act.put, List.setIfInBounds_toArray, List.set_cons_zero, List.set_cons_succ]
                    refine wpAnyH_ready (rs := [9]) (by kernel_rfl) (by simp) (AllReadyH.cons ((List.getElem?_toArray ..).trans rfl) (fun KK hKK => ?_) AllReadyH.nil)
                    go_simp
                    refine hKK.out _ _ hS (fun hS => ?_)
                    clear hKK KK
                    try simp only [Act.put, List.setIfInBounds_toArray, List.set_cons_zero, List.set_cons_succ]
                    refine wpAnyH_done (by kernel_rfl) ?_ _
                    go_wp2_with fail
                    go_meet
                    case rel => exact ⟨w6.heap.size, bB, pB, lB, KB, qB, jB, JB, rfl, rfl, S, hB, nB, dB, HH⟩
                case rest =>
                  obtain ⟨g11, bB, pB, lB, KB, qB, jB, JB, rfl, rfl, S, hB, nB, dB, HH⟩ := hcut
                  obtain ⟨w18, rfl⟩ : ∃ W : World, W = wc := ⟨_, rfl⟩
                  replace N1 := N1.hold HH
                  replace N2 := N2.hold HH
                  replace nA := nA.hold HH
                  replace dA := dA.hold HH
                  replace nt := nt.hold HH
                  clear HH
                  have c0_0 := S.c 0 0 rfl rfl
                  have c0_1 := S.c 0 1 rfl rfl
                  have c1_0 := S.c 1 0 rfl rfl
                  have c1_1 := S.c 1 1 rfl rfl
                  have c1_2 := S.c 1 2 rfl rfl
                  have c2_0 := S.c 2 0 rfl rfl
                  have c2_1 := S.c 2 1 rfl rfl
                  have c2_2 := S.c 2 2 rfl rfl
                  go_wp2_with fail
                  clear c0_0 c0_1 c1_0 c1_1 c1_2 c2_0 c2_1 c2_2
                  refine (S.call (same_any ⟨bA, pA, lA, KA, qA, jA, JA, rfl, hA, nA, dA⟩ ⟨bB, pB, lB, KB, qB, jB, JB, rfl, hB, nB, dB⟩ HQ.out HQ.out (r := true) (by simp))).mono ?_
                  clear S
                  rintro e w19 ⟨rfl, S, H⟩
                  replace N1 := N1.hold H
                  replace N2 := N2.hold H
                  replace nA := nA.hold H
                  replace dA := dA.hold H
                  replace nt := nt.hold H
                  replace nB := nB.hold H
                  replace dB := dB.hold H
                  clear H
                  have c0_0 := S.c 0 0 rfl rfl
                  have c0_1 := S.c 0 1 rfl rfl
                  have c1_0 := S.c 1 0 rfl rfl
                  have c1_1 := S.c 1 1 rfl rfl
                  have c1_2 := S.c 1 2 rfl rfl
                  have c2_0 := S.c 2 0 rfl rfl
                  have c2_1 := S.c 2 1 rfl rfl
                  have c2_2 := S.c 2 2 rfl rfl
                  go_wp2_with fail
                  exact bodyPost_ret (v := .bool true) (by simp [results, Try.f7, go_sem]) rfl (⟨rfl, S.below⟩)
    · have h0' : (c1 != 0) = true := by simpa using h0
      clear h0 hc1
      go_wp2_with fail
      exact bodyPost_ret (v := .bool true) (by simp [results, Try.f7, go_sem]) rfl (⟨rfl, S.below⟩)

end Go.Proofs.Ytggnjlbnfgjgdaa
