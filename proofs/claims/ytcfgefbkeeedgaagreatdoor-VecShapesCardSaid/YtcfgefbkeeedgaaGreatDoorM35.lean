/-
  What the statement stands on.
-/
import Derived.Test.YtcfgefbkeeedgaaGreatDoorM31
import Derived.Test.YtcfgefbkeeedgaaGreatDoorM32
import Derived.Test.YtcfgefbkeeedgaaGreatDoorM34
namespace Go.Proofs.YtcfgefbkeeedgaaGreatDoor
open Go.RowKit
set_option maxRecDepth 100000 in
set_option maxHeartbeats 4000000 in
theorem vpairB_bad (p q : Option Addr) (m c n d : Nat) (f : Value) (w : World) (h : m ≠ n) :
    Calls Tryz.prog 100 #[.slice p m c, .slice q n d, f] w fun e w' => e = .returned (.tuple #[.slice none 0 0, .int .i64 20]) ∧ Below w.heap.size w w' := by
  have h1 : (((m : Nat) : Int) == ((n : Nat) : Int)) = false := by simp; omega
  have h2 : (((m : Nat) : Int) != ((n : Nat) : Int)) = true := by simp; omega
  have S := St.start w
  go_enter Tryz.func100, Tryz.ntmps100
  go_wp2_with fail
  exact bodyPost_ret (v := .tuple #[.slice none 0 0, .int .i64 20]) (by simp [results, Tryz.f100, go_sem]) rfl (⟨rfl, S.below⟩)
set_option maxRecDepth 100000 in
set_option maxHeartbeats 4000000 in
theorem vsub_bad (p q : Option Addr) (m c n d : Nat) (w : World) (h : m ≠ n) :
    Calls Tryz.prog 35 #[.slice p m c, .slice q n d] w fun e w' => e = .returned (.tuple #[.slice none 0 0, .int .i64 20]) ∧ Below w.heap.size w w' := by
  have S := St.start w
  go_enter Tryz.func35, Tryz.ntmps35
  go_wp2_with fail
  refine (S.call (vpair_bad p q m c n d _ _ h)).mono ?_
  clear S
  rintro e w1 ⟨rfl, S, H⟩
  clear H; go_wp2_with fail
  exact bodyPost_ret (v := .tuple #[.slice none 0 0, .int .i64 20]) (by simp [results, Tryz.f35, go_sem]) rfl (⟨rfl, S.below⟩)
set_option maxRecDepth 100000 in
set_option maxHeartbeats 4000000 in
theorem vholds_bad (p q : Option Addr) (m c n d : Nat) (w : World) (h : m ≠ n) :
    Calls Tryz.prog 46 #[.slice p m c, .slice q n d] w fun e w' => e = .returned (.tuple #[.bool false, .int .i64 20]) ∧ Below w.heap.size w w' := by
  have S := St.start w
  go_enter Tryz.func46, Tryz.ntmps46
  go_wp2_with fail
  refine (S.call (vpairB_bad p q m c n d _ _ h)).mono ?_
  clear S
  rintro e w1 ⟨rfl, S, H⟩
  clear H; go_wp2_with fail
  exact bodyPost_ret (v := .tuple #[.bool false, .int .i64 20]) (by simp [results, Tryz.f46, go_sem]) rfl (⟨rfl, S.below⟩)
set_option maxRecDepth 100000 in
set_option maxHeartbeats 4000000 in
theorem vdot_bad (p q : Option Addr) (m c n d : Nat) (w : World) (h : m ≠ n) :
    Calls Tryz.prog 38 #[.slice p m c, .slice q n d] w fun e w' => (∃ b p l K q j J, e = .returned (.tuple #[.agg #[.bool b, .slice p l K, .slice q j J], .int .i64 20])) ∧ Below w.heap.size w w' := by
  have S := (St.start w).alloc 34 [.bool false, .slice none 0 0, .slice none 0 0] (w.heap.size)
  try simp only [List.nil_append] at S
  obtain ⟨c0_0, c0_1, c0_2⟩ := S.c3 0 rfl
  go_enter Tryz.func38, Tryz.ntmps38
  go_wp2_with fail; clear c0_0 c0_1 c0_2
  refine (S.call (vpair_bad p q m c n d _ _ h)).mono ?_
  clear S
  rintro e w1 ⟨rfl, S, H⟩
  clear H; obtain ⟨c0_0, c0_1, c0_2⟩ := S.c3 0 rfl; go_wp2_with fail; clear c0_0 c0_1 c0_2
  refine (S.call (rzero_any _)).mono ?_
  clear S
  rintro e w2 ⟨⟨_, rfl, b1, p1, l1, K1, q1, j1, J1, rfl, h1, n1, d1⟩, S, H⟩
  clear H; obtain ⟨c0_0, c0_1, c0_2⟩ := S.c3 0 rfl
  obtain ⟨f0_0, f0_1, f0_2⟩ := S.f3 0 rfl
  have HP := S.putq 0 (.bool b1) (.slice p1 l1 K1) (.slice q1 j1 J1) rfl rfl; have H := HP.2; replace S := HP.1; clear HP
  replace n1 := n1.hold H; replace d1 := d1.hold H
  clear H; go_wp2_with fail; clear c0_0 c0_1 c0_2 f0_0 f0_1 f0_2; go_wp2_with fail; obtain ⟨d0_0, d0_1, d0_2⟩ := S.c3 0 rfl
  exact bodyPost_ret (v := .tuple #[.agg #[.bool b1, .slice p1 l1 K1, .slice q1 j1 J1], .int .i64 20]) (by simp [results, Tryz.f38, go_sem, d0_0, d0_1, d0_2]) rfl (⟨⟨b1, p1, l1, K1, q1, j1, J1, rfl⟩, S.below⟩)
set_option maxRecDepth 100000 in
set_option maxHeartbeats 4000000 in
theorem shasr_lt_lt {va vb : Value} {x y z : Rat} {L H k1 k2 : Nat} {w : World} (ha : IsSp w va x y L H) (hb : IsRat w vb z) (hLH : H + L + 1 ≤ 16384) (hx : H + L + 1 ≤ 32 * k1) (hy : RB z k2) (hk : k1 + k2 ≤ 511) (hc : cmpR x z = -1) (hd : cmpR y z = -1) :
    Calls Tryz.prog 47 #[va, vb] w fun e w' => e = .returned (.tuple #[.bool false, .int .i64 0]) ∧ Below w.heap.size w w' := by
  obtain ⟨b1, p1, l1, K1, m1, e1, b2, p2, l2, K2, m2, e2, rfl, h1, n1, d1, h2, n2, d2⟩ := ha
  obtain ⟨bq, pq, lq, Kq, qq, jq, Jq, rfl, hbq, nq, dq1⟩ := hb
  have HK := Lib.hid (And.intro hLH (And.intro hx (And.intro hy (And.intro hk (And.intro hc hd)))))
  clear hLH hx hy hk hc hd
  have S := ((St.start w).alloc 29 [.bool b1, .slice p1 l1 K1, .int .i64 e1, .bool b2, .slice p2 l2 K2, .int .i64 e2] (w.heap.size)).alloc 34 [.bool bq, .slice pq lq Kq, .slice qq jq Jq] (w.heap.size + 1)
  try simp only [List.cons_append, List.nil_append] at S
  refine iv4 S.hold n1 n2 nq dq1 ?_; clear n1 n2 nq dq1; intro n1 n2 nq dq1
  obtain ⟨c0_0, c0_1, c0_2, c0_3, c0_4, c0_5⟩ := S.c6 0 rfl; obtain ⟨c1_0, c1_1, c1_2⟩ := S.c3 1 rfl
  go_enter Tryz.func47, Tryz.ntmps47
  go_wp2_with fail; clear c0_0 c0_1 c0_2 c0_3 c0_4 c0_5 c1_0 c1_1 c1_2
  refine (S.call (dcmp_any ⟨b1, p1, l1, K1, m1, e1, rfl, h1, n1, d1⟩ ⟨bq, pq, lq, Kq, qq, jq, Jq, rfl, hbq, nq, dq1⟩ HK.out.1 HK.out.2.1 HK.out.2.2.1 HK.out.2.2.2.1 (-1) HK.out.2.2.2.2.1)).mono ?_
  clear S
  rintro e w1 ⟨rfl, S, H⟩
  refine iv4 H n1 n2 nq dq1 ?_; clear n1 n2 nq dq1; intro n1 n2 nq dq1
  clear H; obtain ⟨c0_0, c0_1, c0_2, c0_3, c0_4, c0_5⟩ := S.c6 0 rfl; obtain ⟨c1_0, c1_1, c1_2⟩ := S.c3 1 rfl; go_wp2_with fail; clear c0_0 c0_1 c0_2 c0_3 c0_4 c0_5 c1_0 c1_1 c1_2
  refine (S.call (dcmp_any ⟨b2, p2, l2, K2, m2, e2, rfl, h2, n2, d2⟩ ⟨bq, pq, lq, Kq, qq, jq, Jq, rfl, hbq, nq, dq1⟩ HK.out.1 HK.out.2.1 HK.out.2.2.1 HK.out.2.2.2.1 (-1) HK.out.2.2.2.2.2)).mono ?_
  clear S
  rintro e w2 ⟨rfl, S, H⟩
  refine iv4 H n1 n2 nq dq1 ?_; clear n1 n2 nq dq1; intro n1 n2 nq dq1
  clear H; obtain ⟨c0_0, c0_1, c0_2, c0_3, c0_4, c0_5⟩ := S.c6 0 rfl; obtain ⟨c1_0, c1_1, c1_2⟩ := S.c3 1 rfl
  have H := S.hnew 36 [.int .i64 0, .int .i64 0]
  replace S := S.al 36 [.int .i64 0, .int .i64 0] (w2.heap.size)
  refine iv4 H n1 n2 nq dq1 ?_; clear n1 n2 nq dq1; intro n1 n2 nq dq1
  clear H; go_wp2_with fail; clear c0_0 c0_1 c0_2 c0_3 c0_4 c0_5 c1_0 c1_1 c1_2
  refine (S.call (or_two S 2 rfl)).mono ?_
  clear S
  rintro e w3 ⟨rfl, S, H⟩
  refine iv4 H n1 n2 nq dq1 ?_; clear n1 n2 nq dq1; intro n1 n2 nq dq1
  clear H; obtain ⟨c0_0, c0_1, c0_2, c0_3, c0_4, c0_5⟩ := S.c6 0 rfl; obtain ⟨c1_0, c1_1, c1_2⟩ := S.c3 1 rfl; go_wp2_with fail
  exact bodyPost_ret (v := .tuple #[.bool false, .int .i64 0]) (by simp [results, Tryz.f47, go_sem]) rfl (⟨rfl, S.below⟩)
set_option maxRecDepth 100000 in
set_option maxHeartbeats 4000000 in
theorem shasr_gt_gt {va vb : Value} {x y z : Rat} {L H k1 k2 : Nat} {w : World} (ha : IsSp w va x y L H) (hb : IsRat w vb z) (hLH : H + L + 1 ≤ 16384) (hx : H + L + 1 ≤ 32 * k1) (hy : RB z k2) (hk : k1 + k2 ≤ 511) (hc : cmpR x z = 1) (hd : cmpR y z = 1) :
    Calls Tryz.prog 47 #[va, vb] w fun e w' => e = .returned (.tuple #[.bool false, .int .i64 0]) ∧ Below w.heap.size w w' := by
  obtain ⟨b1, p1, l1, K1, m1, e1, b2, p2, l2, K2, m2, e2, rfl, h1, n1, d1, h2, n2, d2⟩ := ha
  obtain ⟨bq, pq, lq, Kq, qq, jq, Jq, rfl, hbq, nq, dq1⟩ := hb
  have HK := Lib.hid (And.intro hLH (And.intro hx (And.intro hy (And.intro hk (And.intro hc hd)))))
  clear hLH hx hy hk hc hd
  have S := ((St.start w).alloc 29 [.bool b1, .slice p1 l1 K1, .int .i64 e1, .bool b2, .slice p2 l2 K2, .int .i64 e2] (w.heap.size)).alloc 34 [.bool bq, .slice pq lq Kq, .slice qq jq Jq] (w.heap.size + 1)
  try simp only [List.cons_append, List.nil_append] at S
  refine iv4 S.hold n1 n2 nq dq1 ?_; clear n1 n2 nq dq1; intro n1 n2 nq dq1
  obtain ⟨c0_0, c0_1, c0_2, c0_3, c0_4, c0_5⟩ := S.c6 0 rfl; obtain ⟨c1_0, c1_1, c1_2⟩ := S.c3 1 rfl
  go_enter Tryz.func47, Tryz.ntmps47
  go_wp2_with fail; clear c0_0 c0_1 c0_2 c0_3 c0_4 c0_5 c1_0 c1_1 c1_2
  refine (S.call (dcmp_any ⟨b1, p1, l1, K1, m1, e1, rfl, h1, n1, d1⟩ ⟨bq, pq, lq, Kq, qq, jq, Jq, rfl, hbq, nq, dq1⟩ HK.out.1 HK.out.2.1 HK.out.2.2.1 HK.out.2.2.2.1 (1) HK.out.2.2.2.2.1)).mono ?_
  clear S
  rintro e w1 ⟨rfl, S, H⟩
  refine iv4 H n1 n2 nq dq1 ?_; clear n1 n2 nq dq1; intro n1 n2 nq dq1
  clear H; obtain ⟨c0_0, c0_1, c0_2, c0_3, c0_4, c0_5⟩ := S.c6 0 rfl; obtain ⟨c1_0, c1_1, c1_2⟩ := S.c3 1 rfl; go_wp2_with fail; clear c0_0 c0_1 c0_2 c0_3 c0_4 c0_5 c1_0 c1_1 c1_2
  refine (S.call (dcmp_any ⟨b2, p2, l2, K2, m2, e2, rfl, h2, n2, d2⟩ ⟨bq, pq, lq, Kq, qq, jq, Jq, rfl, hbq, nq, dq1⟩ HK.out.1 HK.out.2.1 HK.out.2.2.1 HK.out.2.2.2.1 (1) HK.out.2.2.2.2.2)).mono ?_
  clear S
  rintro e w2 ⟨rfl, S, H⟩
  refine iv4 H n1 n2 nq dq1 ?_; clear n1 n2 nq dq1; intro n1 n2 nq dq1
  clear H; obtain ⟨c0_0, c0_1, c0_2, c0_3, c0_4, c0_5⟩ := S.c6 0 rfl; obtain ⟨c1_0, c1_1, c1_2⟩ := S.c3 1 rfl
  have H := S.hnew 36 [.int .i64 0, .int .i64 0]
  replace S := S.al 36 [.int .i64 0, .int .i64 0] (w2.heap.size)
  refine iv4 H n1 n2 nq dq1 ?_; clear n1 n2 nq dq1; intro n1 n2 nq dq1
  clear H; go_wp2_with fail; clear c0_0 c0_1 c0_2 c0_3 c0_4 c0_5 c1_0 c1_1 c1_2
  refine (S.call (or_two S 2 rfl)).mono ?_
  clear S
  rintro e w3 ⟨rfl, S, H⟩
  refine iv4 H n1 n2 nq dq1 ?_; clear n1 n2 nq dq1; intro n1 n2 nq dq1
  clear H; obtain ⟨c0_0, c0_1, c0_2, c0_3, c0_4, c0_5⟩ := S.c6 0 rfl; obtain ⟨c1_0, c1_1, c1_2⟩ := S.c3 1 rfl; go_wp2_with fail
  exact bodyPost_ret (v := .tuple #[.bool false, .int .i64 0]) (by simp [results, Tryz.f47, go_sem]) rfl (⟨rfl, S.below⟩)
theorem shasr_gen {va vb : Value} {x y z : Rat} {L H k1 k2 : Nat} {w : World} (ha : IsSp w va x y L H) (hb : IsRat w vb z) (hLH : H + L + 1 ≤ 16384) (hx : H + L + 1 ≤ 32 * k1) (hy : RB z k2) (hk : k1 + k2 ≤ 511) (hxy : x ≤ y) (r : Bool) (hr : decide (x ≤ z ∧ z ≤ y) = r) :
    Calls Tryz.prog 47 #[va, vb] w fun e w' => e = .returned (.tuple #[.bool r, .int .i64 0]) ∧ Below w.heap.size w w' := by
  rcases rat_three x z with h | h | h
  · rcases rat_three y z with g | g | g
    · rw [← hr, decide_eq_false (by grind)]
      exact shasr_lt_lt ha hb hLH hx hy hk (cmpR_lt h) (cmpR_lt g)
    · rw [← hr, decide_eq_true (by grind)]
      exact shasr_yes ha hb hLH hx hy hk (by grind) (by grind)
    · rw [← hr, decide_eq_true (by grind)]
      exact shasr_yes ha hb hLH hx hy hk (by grind) (by grind)
  · rcases rat_three y z with g | g | g
    · exact absurd hxy (by grind)
    · rw [← hr, decide_eq_true (by grind)]
      exact shasr_yes ha hb hLH hx hy hk (by grind) (by grind)
    · rw [← hr, decide_eq_true (by grind)]
      exact shasr_yes ha hb hLH hx hy hk (by grind) (by grind)
  · rw [← hr, decide_eq_false (by grind)]
    exact shasr_gt_gt ha hb hLH hx hy hk (cmpR_gt h) (cmpR_gt (by grind))
set_option maxRecDepth 100000 in
set_option maxHeartbeats 4000000 in
theorem bindex_gen (g n : Nat) (bs : List Bool) (w : World) (hn : bs.length = n) (h9 : n ≤ 1000000) (hg : w.heap[g]? = some (.cells (bs.map Value.bool).toArray 4 (0, 0))) :
    Calls Tryz.prog 137 #[.slice (some ⟨g, 0, none⟩) n n, .bool false] w fun e w' => (∃ i : Int, e = .returned (.int .i64 i)) ∧ Below w.heap.size w w' := by
  have HI := Lib.hid (And.intro hn hg)
  clear hn hg
  have S := St.start w
  go_enter Tryz.func137, Tryz.ntmps137
  go_wp2_with fail
  go_loopw [8] (fun si wr => ∃ k : Nat, k ≤ n ∧ si = .int .i64 k ∧ St w wr []) (fun si _ => n - (intOf si).toNat)
  case atStart => exact ⟨0, by omega, rfl, S⟩
  case round =>
    clear S
    obtain ⟨k, hk, rfl, S⟩ := hrel
    by_cases hlt : k < n
    · have hq : bs[k]? = some (bs[k]'(by have := HI.out.1; omega)) := List.getElem?_eq_getElem _
      generalize bs[k]'(by have := HI.out.1; omega) = bk at hq
      have a0 : wr.cell? ⟨g, k, none⟩ = some (.bool bk) := by
        refine (S.below.cell (p := ⟨g, k, none⟩) (lt_of_heap HI.out.2)).trans ?_
        rw [cell_of_row w g k _ 4 (0, 0) HI.out.2]
        simp [hq]
      have hki : (k : Int) < ((n : Nat) : Int) := by omega
      have HQ := Lib.hid hlt
      clear hq hlt hk
      cases bk with
      | true =>
        go_wp2_with fail
        go_roundw
        case rel => exact ⟨k + 1, HQ.out, by go_num, S⟩
        case measure => have := HQ.out; simp [intOf]; omega
      | false =>
        go_wp2_with fail
        exact bodyPost_ret (v := .int .i64 k) (by simp [results, Tryz.f137, go_sem]) rfl (⟨⟨_, rfl⟩, S.below⟩)
    · have hki : ¬ (k : Int) < ((n : Nat) : Int) := by omega
      clear hlt; go_wp2_with fail
      exact bodyPost_ret (v := .int .i64 (-1)) (by simp [results, Tryz.f137, go_sem]) rfl (⟨⟨_, rfl⟩, S.below⟩)
set_option maxRecDepth 100000 in
set_option maxHeartbeats 4000000 in
theorem bcontains_gen (g n : Nat) (bs : List Bool) (w : World) (hn : bs.length = n) (h9 : n ≤ 1000000) (hg : w.heap[g]? = some (.cells (bs.map Value.bool).toArray 4 (0, 0))) :
    Calls Tryz.prog 101 #[.slice (some ⟨g, 0, none⟩) n n, .bool false] w fun e w' => (∃ r : Bool, e = .returned (.bool r)) ∧ Below w.heap.size w w' := by
  have HV := Lib.hid (bindex_gen g n bs w hn h9 hg)
  clear hn h9 hg
  have S := St.start w
  go_enter Tryz.func101, Tryz.ntmps101
  go_wp2_with fail
  refine (S.call (HV.out)).mono ?_
  clear S
  rintro e w1 ⟨⟨i, rfl⟩, S, H⟩
  clear H; go_wp2_with fail
  exact bodyPost_ret (v := .bool (decide (0 ≤ i))) (by simp [results, Tryz.f101, go_sem]) rfl (⟨⟨_, rfl⟩, S.below⟩)
set_option maxRecDepth 100000 in
set_option maxHeartbeats 4000000 in
theorem vholds_gen {va vb : Value} {xs : List (Rat × Rat)} {ys : List Rat} {w : World} {L H k1 k2 : Nat} (ha : Spans w va xs L H) (hb : Rats w vb ys) (m : Nat) (hla : xs.length = m) (hlb : ys.length = m) (hm : m ≤ 1000000) (hLH : H + L + 1 ≤ 16384) (hx : H + L + 1 ≤ 32 * k1) (hk : k1 + k2 ≤ 511) (hy : ∀ y, y ∈ ys → RB y k2)
    (hin : ∀ (j : Nat) x, xs[j]? = some x → x.1 ≤ x.2) :
    Calls Tryz.prog 46 #[va, vb] w fun e w' => (∃ r : Bool, e = .returned (.tuple #[.bool r, .int .i64 0])) ∧ Below w.heap.size w w' := by
  have HV := Lib.hid (vpaSRB_any ha hb m hla hlb hm 47 (fun x y => decide (x.1 ≤ y ∧ y ≤ x.2)) (fun _ _ _ => by kernel_rfl) (fun W u v j x y _ h1 h2 hu hv => shasr_gen hu hv hLH hx (hy y (List.mem_of_getElem? h2)) hk (hin j x h1) _ rfl))
  have hz : (List.zipWith (fun (x : Rat × Rat) (y : Rat) => decide (x.1 ≤ y ∧ y ≤ x.2)) xs ys).length = m := by simp [hla, hlb]
  generalize List.zipWith (fun (x : Rat × Rat) (y : Rat) => decide (x.1 ≤ y ∧ y ≤ x.2)) xs ys = bs at HV hz
  have HZ := Lib.hid (And.intro hz hm)
  clear ha hb hla hlb hm hLH hx hk hy hin hz
  have S := St.start w
  go_enter Tryz.func46, Tryz.ntmps46
  go_wp2_with fail
  refine (S.call (HV.out)).mono ?_
  clear S
  rintro e w1 ⟨⟨v, rfl, g, vs, rfl, hg, hh, rfl⟩, S, H⟩
  clear H
  rw [HZ.out.1]
  have HH := Lib.hid hh
  clear hh hg; go_wp2_with fail
  refine (S.call (bcontains_gen g m _ _ HZ.out.1 HZ.out.2 HH.out)).mono ?_
  clear S
  rintro e w2 ⟨⟨r, rfl⟩, S, H⟩
  clear H
  cases r with
  | true =>
    go_wp2_with fail
    exact bodyPost_ret (v := .tuple #[.bool false, .int .i64 0]) (by simp [results, Tryz.f46, go_sem]) rfl (⟨⟨_, rfl⟩, S.below⟩)
  | false =>
    go_wp2_with fail
    exact bodyPost_ret (v := .tuple #[.bool true, .int .i64 0]) (by simp [results, Tryz.f46, go_sem]) rfl (⟨⟨_, rfl⟩, S.below⟩)
set_option maxRecDepth 100000 in
set_option maxHeartbeats 4000000 in
theorem veqf_len (p q : Option Addr) (m c n d : Nat) (f : Value) (w : World) (h : m ≠ n) :
    Calls Tryz.prog 87 #[.slice p m c, .slice q n d, f] w fun e w' => e = .returned (.bool false) ∧ Below w.heap.size w w' := by
  have h1 : (((m : Nat) : Int) == ((n : Nat) : Int)) = false := by simp; omega
  have h2 : (((m : Nat) : Int) != ((n : Nat) : Int)) = true := by simp; omega
  have S := St.start w
  go_enter Tryz.func87, Tryz.ntmps87
  go_wp2_with fail
  exact bodyPost_ret (v := .bool false) (by simp [results, Tryz.f87, go_sem]) rfl (⟨rfl, S.below⟩)
set_option maxRecDepth 100000 in
set_option maxHeartbeats 4000000 in
theorem vsame_len (p q : Option Addr) (m c n d : Nat) (w : World) (h : m ≠ n) :
    Calls Tryz.prog 36 #[.slice p m c, .slice q n d] w fun e w' => e = .returned (.bool false) ∧ Below w.heap.size w w' := by
  have S := St.start w
  go_enter Tryz.func36, Tryz.ntmps36
  go_wp2_with fail
  refine (S.call (veqf_len p q m c n d _ _ h)).mono ?_
  clear S
  rintro e w1 ⟨rfl, S, H⟩
  clear H; go_wp2_with fail
  exact bodyPost_ret (v := .bool false) (by simp [results, Tryz.f36, go_sem]) rfl (⟨rfl, S.below⟩)
theorem unit_at (n j : Nat) (z : Int) : (unitL n z)[j]? = if j < n then some (if (j : Int) = z then 1 else 0) else none := by
  unfold unitL
  by_cases hj : j < n
  · rw [if_pos hj, List.getElem?_map, List.getElem?_range hj]; rfl
  · rw [if_neg hj, List.getElem?_eq_none (by simp; omega)]
theorem unitS_rb (n : Nat) (z : Int) : ∀ q, q ∈ unitL n z → RB q 1 := fun q h => by
  obtain ⟨i, _, rfl⟩ := List.mem_map.1 h
  by_cases e : (i : Int) = z
  · rw [if_pos e]; exact rb_one (by decide +kernel) (by decide +kernel)
  · rw [if_neg e]; exact rb_zero
theorem unit_near (n m : Nat) (z : Int) (h2 : 2 ≤ m) : ∀ (j : Nat) x, ((unitL n z).map (nearQ m))[j]? = some x → x.1 ≤ x.2 := fun j x h => by
  rw [List.getElem?_map] at h
  cases hq : (unitL n z)[j]? with
  | none => rw [hq] at h; simp at h
  | some q =>
    rw [hq] at h
    simp at h
    subst h
    obtain ⟨a1, a2, _, _⟩ := nearQ_in q h2
    exact Rat.le_trans a1 a2
set_option maxRecDepth 100000 in
set_option maxHeartbeats 16000000 in
theorem vecShapes_any (f : Int) (z : Int) (va : Value) (xsa : List RawQ) (w : World) (hT : Tab w) (hf0 : -9223372036854775808 ≤ f) (hf1 : f ≤ 9223372036854775807) (hz0 : -9223372036854775808 ≤ z) (hz1 : z ≤ 9223372036854775807) (hRa : Raws w va xsa) :
    Calls Tryz.prog 8 #[.int .i64 f, .int .i64 z, va] w fun e w' => e = .returned (.bool true) ∧ Below w.heap.size w w' := by
  have HT := Lib.hid hT
  obtain ⟨pa, ca, rfl⟩ := hRa.form
  obtain ⟨na, hna⟩ : ∃ n, xsa.length = n := ⟨_, rfl⟩
  rw [hna] at hRa
  have HRa := Lib.hid (And.intro hRa hna)
  rw [hna]
  clear hT hRa hna hf0 hf1 hz0 hz1
  have S := St.start w
  go_enter Tryz.func8, Tryz.ntmps8
  go_wp2_with fail
  refine (S.call (points_any _ (HT.out.below S.below))).mono ?_
  clear S
  rintro e w1 ⟨rfl, S, H⟩
  clear H
  have H := S.hnew 55 [.slice pa na ca]
  replace S := S.al 55 [.slice pa na ca] (w1.heap.size)
  clear H; go_wp2_with fail
  refine (S.call (vfit_any _ 1 (.slice pa na ca) xsa [] _ (rawll1 S 0 rfl (HRa.out.1.to S.below)) rfl (by decide))).mono ?_
  clear S
  rintro e w2 ⟨⟨ok, rfl, hok⟩, S, H⟩
  clear H
  cases ok with
  | false =>
    go_wp2_with fail
    exact bodyPost_ret (v := .bool true) (by simp [results, Tryz.f8, go_sem]) rfl (⟨rfl, S.below⟩)
  | true =>
    have hfa := hok.out rfl 0 _ _ rfl
    rw [HRa.out.2] at hfa
    obtain ⟨qa, ra, la, ba, _⟩ := hfa.list HRa.out.1
    have HA := Lib.hid (And.intro ra (And.intro la (And.intro ba hfa.2.1)))
    clear hok hfa ra la ba
    by_cases h0 : f < 0
    · skip
      go_wp2_with fail
      exact bodyPost_ret (v := .bool true) (by simp [results, Tryz.f8, go_sem]) rfl (⟨rfl, S.below⟩)
    skip
    by_cases h1 : 16 < f
    · skip
      go_wp2_with fail
      exact bodyPost_ret (v := .bool true) (by simp [results, Tryz.f8, go_sem]) rfl (⟨rfl, S.below⟩)
    skip
    obtain ⟨n, hn⟩ : ∃ n : Nat, (n : Int) = f := ⟨f.toNat, by omega⟩
    subst hn
    have HN := Lib.hid (show n ≤ 16 ∧ n ≤ 1000000 by omega)
    have hn16 : ((n : Nat) : Int) ≤ 16 := by omega
    have hnn : (((n : Nat) : Int) == ((n : Nat) : Int)) = true := by simp
    have hnm : (((n : Nat) : Int) != ((n : Nat) : Int)) = false := by simp
    clear h0 h1
    replace S := S.take 0 (L := []) rfl
    go_wp2_with fail
    have HIN := S.ins
    refine (S.call (vunit_any n HN.out.1 z _)).mono ?_
    clear S
    rintro e w10 ⟨⟨_, rfl, g3, vs3, rfl, hg, hh, r3⟩, S, H⟩
    clear H
    rw [unitL_len]
    replace S := S.adoptF HIN hg hh
    try simp only [List.cons_append, List.nil_append] at S
    clear HIN hg hh; go_wp2_with fail
    refine (S.call (vcheck_any (S.rats 0 rfl r3 (n := n) (c := n) (unitL_len ..).symm (Nat.le_refl _)) (unitL_len ..) HN.out.1 (rb_m (unitS_rb n z) (by decide)))).mono ?_
    clear S
    rintro e w11 ⟨rfl, S, H⟩
    replace r3 := r3.hold H; clear H; go_wp2_with fail
    go_loopw [49] (fun si wr => ∃ i : Nat, i ≤ n ∧ si = .int .i64 i ∧ RL wr vs3 (unitL n z) ∧ St w wr [(g3, 34, vs3)]) (fun si _ => n - (intOf si).toNat)
    case atStart => exact ⟨0, by omega, rfl, r3, S⟩
    case round =>
      clear S r3
      obtain ⟨i, hi, rfl, r3, S⟩ := hrel
      by_cases hlt : i < n
      · obtain ⟨x, hx, hxq⟩ : ∃ x, (unitL n z)[i]? = some x ∧ x = if (i : Int) = z then 1 else 0 := ⟨_, by rw [unit_at, if_pos hlt], rfl⟩
        obtain ⟨_, _, _, k0, k1, k2, b5, p5, l5, K5, q5, j5, J5, rfl, rfl, rfl, h5, n5, d5⟩ := r3.get hx
        have a0 := S.c 0 _ rfl k0; have a1 := S.c 0 _ rfl k1; have a2 := S.c 0 _ rfl k2
        have hki : (i : Int) < ((n : Nat) : Int) := by omega
        have hi9 : (i : Int) ≤ 16 := by omega
        have HQ := Lib.hid (And.intro hlt (rb_max (unitS_rb n z x (List.mem_of_getElem? hx)) (by decide)))
        clear k0 k1 k2 hlt hi hx
        go_upto_region 11 with fail
        clear a0 a1 a2
        have H := S.hnew 34 [.bool b5, .slice p5 l5 K5, .slice q5 j5 J5]
        replace S := S.al 34 [.bool b5, .slice p5 l5 K5, .slice q5 j5 J5] (wr.heap.size)
        refine iv3 H r3 n5 d5 ?_; clear r3 n5 d5; intro r3 n5 d5
        clear H; obtain ⟨c1_0, c1_1, c1_2⟩ := S.c3 1 rfl
        by_cases hiz : (i : Int) = z
        ·
          rw [if_pos hiz] at hxq
          have e1 : ((i : Int) == z) = true := by simpa using hiz
          have e2 : ((i : Int) != z) = false := by simpa using hiz
          obtain ⟨c1_0, c1_1, c1_2⟩ := S.c3 1 rfl; go_wp2_with fail; clear c1_0 c1_1 c1_2
          refine (S.call (rsign_any ⟨b5, p5, l5, K5, q5, j5, J5, rfl, h5, n5, d5⟩ HQ.out.2.1 (s := 1) (by rw [hxq]; decide +kernel))).mono ?_
          clear S
          rintro e w21 ⟨rfl, S, H⟩
          refine iv3 H r3 n5 d5 ?_; clear r3 n5 d5; intro r3 n5 d5
          clear H; obtain ⟨c1_0, c1_1, c1_2⟩ := S.c3 1 rfl; clear c1_0 c1_1 c1_2; go_wp2_with fail
          replace S := S.take 1 rfl
          go_roundw
          case rel => exact ⟨i + 1, HQ.out.1, by go_num, r3, S⟩
          case measure => have := HQ.out.1; simp [intOf]; omega
        ·
          rw [if_neg hiz] at hxq
          have e1 : ((i : Int) == z) = false := by simpa using hiz
          have e2 : ((i : Int) != z) = true := by simpa using hiz
          obtain ⟨c1_0, c1_1, c1_2⟩ := S.c3 1 rfl; go_wp2_with fail; clear c1_0 c1_1 c1_2
          refine (S.call (rsign_any ⟨b5, p5, l5, K5, q5, j5, J5, rfl, h5, n5, d5⟩ HQ.out.2.1 (s := 0) (by rw [hxq]; decide +kernel))).mono ?_
          clear S
          rintro e w21 ⟨rfl, S, H⟩
          refine iv3 H r3 n5 d5 ?_; clear r3 n5 d5; intro r3 n5 d5
          clear H; obtain ⟨c1_0, c1_1, c1_2⟩ := S.c3 1 rfl; clear c1_0 c1_1 c1_2; go_wp2_with fail
          replace S := S.take 1 rfl
          go_roundw
          case rel => exact ⟨i + 1, HQ.out.1, by go_num, r3, S⟩
          case measure => have := HQ.out.1; simp [intOf]; omega
      · have hki : ¬ (i : Int) < ((n : Nat) : Int) := by omega
        clear hlt hi
        by_cases hna : n = na
        ·
          subst hna
          go_wp2_with fail
          have HIN := S.ins
          refine (S.call (vadd_any (S.rats 0 rfl r3 (n := n) (c := n) (unitL_len ..).symm (Nat.le_refl _)) (HA.out.1.to S.below) n (unitL_len ..) HA.out.2.1 HN.out.2 (k1 := 1) (k2 := 5) (unitS_rb n z) HA.out.2.2.1 (by decide))).mono ?_
          clear S
          rintro e w61 ⟨⟨_, rfl, g6, vs6, rfl, hg, hh, r6⟩, S, H⟩
          replace r3 := r3.hold H; clear H; clear HIN hg hh r6
          rw [show (List.zipWith (· + ·) (unitL n z) qa).length = n from by rw [List.length_zipWith, unitL_len, HA.out.2.1, Nat.min_self]]
          go_wp2_with fail
          refine (S.call (vdot_any (S.rats 0 rfl r3 (n := n) (c := n) (unitL_len ..).symm (Nat.le_refl _)) (HA.out.1.to S.below) n (unitL_len ..) HA.out.2.1 (by have := HN.out; omega) (k1 := 1) (k2 := 5) (unitS_rb n z) HA.out.2.2.1 (by have := HN.out; omega))).mono ?_
          clear S
          rintro e w62 ⟨⟨_, rfl, b7, p7, l7, K7, q7, j7, J7, rfl, h7, n7, d7⟩, S, H⟩
          replace r3 := r3.hold H; clear H
          have H := S.hnew 34 [.bool b7, .slice p7 l7 K7, .slice q7 j7 J7]
          replace S := S.al 34 [.bool b7, .slice p7 l7 K7, .slice q7 j7 J7] (w62.heap.size)
          refine iv3 H r3 n7 d7 ?_; clear r3 n7 d7; intro r3 n7 d7
          clear H; go_wp2_with fail
          generalize (.tuple #[.agg #[.bool b7, .slice p7 l7 K7, .slice q7 j7 J7], .int .i64 0] : Value) = g1
          have HIN := S.ins
          refine (S.call (vsub_any (HA.out.1.to S.below) (S.rats 0 rfl r3 (n := n) (c := n) (unitL_len ..).symm (Nat.le_refl _)) n HA.out.2.1 (unitL_len ..) HN.out.2 (k1 := 5) (k2 := 1) HA.out.2.2.1 (unitS_rb n z) (by decide))).mono ?_
          clear S
          rintro e w63 ⟨⟨_, rfl, g8, vs8, rfl, hg, hh, r8⟩, S, H⟩
          refine iv3 H r3 n7 d7 ?_; clear r3 n7 d7; intro r3 n7 d7
          clear H; clear HIN hg hh r8
          rw [show (List.zipWith (· - ·) qa (unitL n z)).length = n from by rw [List.length_zipWith, unitL_len, HA.out.2.1, Nat.min_self]]
          go_wp2_with fail
          have HIN := S.ins
          refine (S.call (vnear_any (HT.out.below S.below) (S.rats 0 rfl r3 (n := n) (c := n) (unitL_len ..).symm (Nat.le_refl _)) n (unitL_len ..) HN.out.2 (k := 1) (unitS_rb n z) 5 (by decide) (by decide) (by decide))).mono ?_
          clear S
          rintro e w64 ⟨⟨_, rfl, g9, vs9, rfl, hg, hh, r9⟩, S, H⟩
          refine iv3 H r3 n7 d7 ?_; clear r3 n7 d7; intro r3 n7 d7
          clear H
          rw [show ((unitL n z).map (nearQ 5)).length = n from by rw [List.length_map, unitL_len]]
          replace S := S.adoptF HIN hg hh
          try simp only [List.cons_append, List.nil_append] at S
          clear HIN hg hh; go_wp2_with fail
          refine (S.call (vholds_gen (k1 := 4) (k2 := 5) (S.spans 2 rfl r9 (n := n) (c := n) (by rw [List.length_map, unitL_len]) (Nat.le_refl _)) (HA.out.1.to S.below) n (by rw [List.length_map, unitL_len]) HA.out.2.1 HN.out.2 (by decide) (by decide) (by decide) HA.out.2.2.1 (unit_near n 5 z (by decide)))).mono ?_
          clear S
          rintro e w65 ⟨⟨rr, rfl⟩, S, H⟩
          refine iv4 H r3 n7 d7 r9 ?_; clear r3 n7 d7 r9; intro r3 n7 d7 r9
          clear H; go_wp2_with fail
          refine (S.call (vcheck_any (HA.out.1.to S.below) HA.out.2.1 HN.out.1 (rb_m HA.out.2.2.1 (by decide)))).mono ?_
          clear S
          rintro e w66 ⟨rfl, S, H⟩
          refine iv4 H r3 n7 d7 r9 ?_; clear r3 n7 d7 r9; intro r3 n7 d7 r9
          clear H; go_wp2_with fail
          exact bodyPost_ret (v := .bool true) (by simp [results, Tryz.f8, go_sem]) rfl (⟨rfl, S.below⟩)
        ·
          have hna' : na ≠ n := fun e => hna e.symm
          have HNE := Lib.hid (And.intro hna hna')
          have e1 : (((n : Nat) : Int) == ((na : Nat) : Int)) = false := by simp; omega
          have e2 : (((n : Nat) : Int) != ((na : Nat) : Int)) = true := by simp; omega
          clear hna hna'; go_wp2_with fail
          refine (S.call (vadd_bad _ pa n n na ca _ HNE.out.1)).mono ?_
          clear S
          rintro e w61 ⟨rfl, S, H⟩
          replace r3 := r3.hold H; clear H; go_wp2_with fail
          refine (S.call (vdot_bad _ pa n n na ca _ HNE.out.1)).mono ?_
          clear S
          rintro e w62 ⟨⟨b7, p7, l7, K7, q7, j7, J7, rfl⟩, S, H⟩
          replace r3 := r3.hold H; clear H
          have H := S.hnew 34 [.bool b7, .slice p7 l7 K7, .slice q7 j7 J7]
          replace S := S.al 34 [.bool b7, .slice p7 l7 K7, .slice q7 j7 J7] (w62.heap.size)
          replace r3 := r3.hold H; clear H; go_wp2_with fail
          generalize (.tuple #[.agg #[.bool b7, .slice p7 l7 K7, .slice q7 j7 J7], .int .i64 20] : Value) = g1
          refine (S.call (vsub_bad pa _ na ca n n _ HNE.out.2)).mono ?_
          clear S
          rintro e w63 ⟨rfl, S, H⟩
          replace r3 := r3.hold H; clear H; go_wp2_with fail
          have HIN := S.ins
          refine (S.call (vnear_any (HT.out.below S.below) (S.rats 0 rfl r3 (n := n) (c := n) (unitL_len ..).symm (Nat.le_refl _)) n (unitL_len ..) HN.out.2 (k := 1) (unitS_rb n z) 5 (by decide) (by decide) (by decide))).mono ?_
          clear S
          rintro e w64 ⟨⟨_, rfl, g9, vs9, rfl, hg, hh, r9⟩, S, H⟩
          replace r3 := r3.hold H; clear H
          rw [show ((unitL n z).map (nearQ 5)).length = n from by rw [List.length_map, unitL_len]]
          clear HIN hg hh r9; go_wp2_with fail
          refine (S.call (vholds_bad _ pa n n na ca _ HNE.out.1)).mono ?_
          clear S
          rintro e w65 ⟨rfl, S, H⟩
          replace r3 := r3.hold H; clear H; go_wp2_with fail
          refine (S.call (vsame_len _ pa n n na ca _ HNE.out.1)).mono ?_
          clear S
          rintro e w66 ⟨rfl, S, H⟩
          replace r3 := r3.hold H; clear H; go_wp2_with fail
          refine (S.call (vcheck_shape pa na ca (n : Int) _ (by have := HNE.out.2; omega))).mono ?_
          clear S
          rintro e w67 ⟨rfl, S, H⟩
          replace r3 := r3.hold H; clear H; go_wp2_with fail
          exact bodyPost_ret (v := .bool true) (by simp [results, Tryz.f8, go_sem]) rfl (⟨rfl, S.below⟩)
end Go.Proofs.YtcfgefbkeeedgaaGreatDoor
