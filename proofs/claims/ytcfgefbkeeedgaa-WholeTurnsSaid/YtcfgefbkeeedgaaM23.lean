/-
  What the statement stands on.
-/
import Derived.Test.YtcfgefbkeeedgaaM21
import Derived.Test.YtcfgefbkeeedgaaM22
namespace Go.Proofs.Ytcfgefbkeeedgaa
open Go.RowKit
theorem wrap_fit {z : Int} (h0 : -9223372036854775808 ≤ z) (h1 : z ≤ 9223372036854775807) : IntKind.i64.wrap z = z := by
  rw [show ∀ y, IntKind.i64.wrap y = (y + 9223372036854775808) % 18446744073709551616 - 9223372036854775808 from fun y => by simp [IntKind.wrap, IntKind.bits, IntKind.signed]; omega]
  omega
theorem lit_at (w : World) (v : Value) (t : TypeId) : ArrAt (w.alloc (.cells #[v] t)) w.heap.size 0 [v] := .of_heap (World.alloc_heap_new w _)
def rowV (p : Option Addr) (c n j : Nat) : Value := .slice (p.map fun a => a.add (j * n * 3)) n (c - j * n)
def rowsV (p : Option Addr) (c n k : Nat) : List Value := (List.range k).map (rowV p c n)
theorem rowsV_len (p : Option Addr) (c n k : Nat) : (rowsV p c n k).length = k := by simp [rowsV]
theorem rowsV_get {p : Option Addr} {c n k j : Nat} (h : j < k) : (rowsV p c n k)[j]? = some (rowV p c n j) := by simp [rowsV, h]
theorem rowsV_from {p : Option Addr} {c n k j : Nat} {u : Value} (h : (rowsV p c n k)[j]? = some u) : u = rowV p c n j ∧ j < k := by
  have hl := (List.getElem?_eq_some_iff.1 h).1
  rw [rowsV_len] at hl
  rw [rowsV_get hl] at h
  exact ⟨(Option.some.inj h).symm, hl⟩
theorem rowsV_one (p : Option Addr) (c n k : Nat) : ∀ u ∈ rowsV p c n k, u.oneCell' = true := by
  intro u hu
  obtain ⟨j, hj⟩ := List.getElem?_of_mem hu
  rw [(rowsV_from hj).1]
  rfl
def rowR (us : List RawQ) (n j : Nat) : List RawQ := (us.drop (j * n)).take n
theorem raws_take {w : World} {p : Option Addr} {l c n : Nat} {us : List RawQ} (h : Raws w (.slice p l c) us) (hn : n ≤ l) : Raws w (.slice p n c) (us.take n) ∧ (us.take n).length = n := by
  obtain ⟨p', c', e, h1, h2, h3⟩ := h
  cases e
  have hl : (us.take n).length = n := by rw [List.length_take]; omega
  refine ⟨⟨_, _, by rw [hl], h1, by omega, fun j x hj => ?_⟩, hl⟩
  rw [List.getElem?_take] at hj
  split at hj
  · exact h3 j x hj
  · cases hj
theorem raws_row {w : World} {p : Option Addr} {l c n j : Nat} {us : List RawQ} (h : Raws w (.slice p l c) us) (hn : j * n + n ≤ l) : Raws w (rowV p c n j) (rowR us n j) ∧ (rowR us n j).length = n := by
  obtain ⟨p', c', e, h1, h2, h3⟩ := h
  cases e
  have hl : (rowR us n j).length = n := by rw [rowR, List.length_take, List.length_drop]; omega
  refine ⟨⟨_, _, by rw [rowV, hl], fun hp => ?_, by omega, fun i x hi => ?_⟩, hl⟩
  · cases p with
    | none => have := h1 rfl; omega
    | some a => cases hp
  · rw [rowR, List.getElem?_take] at hi
    split at hi
    · rw [List.getElem?_drop] at hi
      obtain ⟨g, off, rfl, hg, a0, a1, a2, hx⟩ := h3 _ x hi
      have e : (⟨g, off, none⟩ : Addr).add (j * n * 3) = ⟨g, off + j * n * 3, none⟩ := by unfold Addr.add; split <;> simp_all
      have e1 : off + (j * n + i) * 3 = off + j * n * 3 + i * 3 := by rw [Nat.add_mul]; omega
      rw [e1] at a0 a1 a2
      exact ⟨g, off + j * n * 3, by rw [← e]; rfl, hg, a0, a1, a2, hx⟩
    · cases hi
theorem lists_arr {w : World} {base n : Nat} {v : Value} {cs : List Value} (h : w.ownsRow base 22 1 v n cs) : ∃ p c, v = .slice p n c ∧ (p = none → c = 0 ∧ n = 0) ∧ n ≤ c ∧ ∀ g off sp, p = some ⟨g, off, sp⟩ → sp = none ∧ ArrAt w g off cs ∧ g < w.heap.size := by
  rcases h.2 with ⟨h1, h2⟩ | ⟨g, cap, cur, h1, h2, h3, h4, h5, h6, h7⟩
  · subst h1 h2
    exact ⟨none, 0, rfl, fun _ => ⟨rfl, rfl⟩, Nat.le_refl _, fun g off sp e => (by cases e)⟩
  · subst h1
    refine ⟨_, cap, rfl, fun e => (by cases e), h4, fun g' off sp e => ?_⟩
    cases e
    refine ⟨rfl, fun j u hj => ?_, lt_of_heap h3⟩
    have hc := h.cells (g := g) rfl
    have e : ∀ k, (⟨g, 0, none⟩ : Addr).add k = ⟨g, 0 + k, none⟩ := fun k => by unfold Addr.add; split <;> simp_all
    have c0 := hc _ _ hj
    rw [e] at c0
    exact c0
theorem list_of {α : Type} {P : Nat → α → Prop} : ∀ n, (∀ j, j < n → ∃ r, P j r) → ∃ A : List α, A.length = n ∧ ∀ j r, A[j]? = some r → P j r
  | 0, _ => ⟨[], rfl, fun j r h => by simp at h⟩
  | n + 1, h => by
    obtain ⟨A, hl, hA⟩ := list_of n fun j hj => h j (by omega)
    obtain ⟨r, hr⟩ := h n (by omega)
    refine ⟨A ++ [r], by simp [hl], fun j x hx => ?_⟩
    by_cases hj : j < n
    · rw [List.getElem?_append_left (by omega)] at hx
      exact hA j x hx
    · rw [List.getElem?_append_right (by omega)] at hx
      have e : j - A.length = 0 := by
        have := (List.getElem?_eq_some_iff.1 hx).1
        simp at this
        omega
      rw [e] at hx
      have e2 : j = n := by omega
      subst e2
      simp at hx
      exact hx ▸ hr
theorem rb_dot {xs ys : List Rat} {n k1 k2 : Nat} (hx : xs.length = n) (hy : ys.length = n) (h1 : ∀ q, q ∈ xs → RB q k1) (h2 : ∀ q, q ∈ ys → RB q k2) : RB (dotL xs ys) ((k1 + k2 + 1) * n + 1) := by
  rw [dotL_sum hx hy]
  refine rb_sum (Z := fun j => xs.getD j 0 * ys.getD j 0) (n := n) (c := k1 + k2) (fun j hj => ?_) n (Nat.le_refl _)
  have g1 : xs[j]? = some (xs[j]'(by omega)) := List.getElem?_eq_getElem _
  have g2 : ys[j]? = some (ys[j]'(by omega)) := List.getElem?_eq_getElem _
  have e1 : xs.getD j 0 = xs[j]'(by omega) := by simp [List.getD, g1]
  have e2 : ys.getD j 0 = ys[j]'(by omega) := by simp [List.getD, g2]
  simp only [e1, e2]
  exact rb_mul (h1 _ (List.getElem_mem _)) (h2 _ (List.getElem_mem _))
theorem rb_on {A : List (List Rat)} {xs : List Rat} {n k1 k2 : Nat} (hm : ∀ r, r ∈ A → r.length = n) (hx : xs.length = n) (h1 : ∀ r, r ∈ A → ∀ q, q ∈ r → RB q k1) (h2 : ∀ q, q ∈ xs → RB q k2) (q : Rat) (hq : q ∈ A.map fun r => dotL r xs) : RB q ((k1 + k2 + 1) * n + 1) := by
  obtain ⟨r, hr, rfl⟩ := List.mem_map.1 hq
  exact rb_dot (hm r hr) hx (h1 r hr) h2
theorem colsL_same {A : List (List Rat)} {n : Nat} (hA : A.length = n) (hm : ∀ r, r ∈ A → r.length = n) : colsL A = n := by
  cases A with
  | nil => simpa [colsL] using hA
  | cons r A => simpa [colsL] using hm r (List.mem_cons_self ..)
theorem turnL_all {A : List (List Rat)} {n k : Nat} (hA : A.length = n) (hm : ∀ r, r ∈ A → r.length = n) (hq : ∀ r, r ∈ A → ∀ q, q ∈ r → RB q k) : (∀ r, r ∈ turnL A → r.length = n) ∧ ∀ r, r ∈ turnL A → ∀ q, q ∈ r → RB q k := by
  have h : ∀ r, r ∈ turnL A → ∃ j, j < n ∧ r = colL A j := fun r hr => by
    simp only [turnL, List.mem_map, List.mem_range, hA] at hr
    obtain ⟨j, hj, rfl⟩ := hr
    exact ⟨j, hj, rfl⟩
  refine ⟨fun r hr => ?_, fun r hr q hq' => ?_⟩
  · obtain ⟨j, _, rfl⟩ := h r hr
    rw [colL_len, hA]
  · obtain ⟨j, hj, rfl⟩ := h r hr
    obtain ⟨i, hi⟩ := List.getElem?_of_mem hq'
    obtain ⟨r', h1, h2⟩ := colL_in hm hj hi
    exact hq r' h1 q h2
theorem St.callB {w W : World} {L} {P : Program} {f : FuncId} {args : Array Value} {R : Ending → World → Prop} (S : St w W L) (hc : Calls P f args W fun e w' => R e w' ∧ Below W.heap.size W w') :
    Calls P f args W fun e w' => R e w' ∧ St w w' L ∧ Below W.heap.size W w' := hc.mono fun _ _ h => ⟨h.1, S.to h.2, h.2⟩
def allL (p1 p2 p3 : Option Addr) (c1 c2 c3 n : Nat) (us ys vs : List RawQ) : List (Value × List RawQ) := (.slice p2 n c2, ys.take n) :: (.slice p3 n c3, vs.take n) :: (List.range n).map fun j => (rowV p1 c1 n j, rowR us n j)
theorem allL_len (p1 p2 p3 : Option Addr) (c1 c2 c3 n : Nat) (us ys vs : List RawQ) : (allL p1 p2 p3 c1 c2 c3 n us ys vs).length = n + 2 := by simp [allL]
theorem allL_row {p1 p2 p3 : Option Addr} {c1 c2 c3 n : Nat} {us ys vs : List RawQ} {j : Nat} (hj : j < n) : (allL p1 p2 p3 c1 c2 c3 n us ys vs)[j + 2]? = some (rowV p1 c1 n j, rowR us n j) := by simp [allL, hj]
theorem allL_ok {w : World} {p1 p2 p3 : Option Addr} {l1 l2 l3 c1 c2 c3 n : Nat} {us ys vs : List RawQ} (h1 : Raws w (.slice p1 l1 c1) us) (h2 : Raws w (.slice p2 l2 c2) ys) (h3 : Raws w (.slice p3 l3 c3) vs) (m1 : n * n ≤ l1) (m2 : n ≤ l2) (m3 : n ≤ l3) :
    ∀ (j : Nat) v xs, (allL p1 p2 p3 c1 c2 c3 n us ys vs)[j]? = some (v, xs) → ([Value.slice p2 n c2, .slice p3 n c3] ++ rowsV p1 c1 n n)[j]? = some v ∧ Raws w v xs ∧ xs.length = n := by
  intro j v xs hj
  match j, hj with
  | 0, hj => cases hj; exact ⟨rfl, raws_take h2 m2⟩
  | 1, hj => cases hj; exact ⟨rfl, raws_take h3 m3⟩
  | j + 2, hj =>
    have hl := (List.getElem?_eq_some_iff.1 hj).1
    rw [allL_len] at hl
    rw [allL_row (by omega)] at hj
    cases hj
    refine ⟨by simpa using rowsV_get (by omega), raws_row h1 ?_⟩
    rw [← Nat.succ_mul]
    exact Nat.le_trans (Nat.mul_le_mul_right _ (by omega)) m1
set_option maxRecDepth 100000 in
set_option maxHeartbeats 8000000 in
theorem wholeTurns_any (z : Int) (u y v : Value) (us ys vs : List RawQ) (w : World) (hz0 : -9223372036854775808 ≤ z) (hz1 : z ≤ 9223372036854775807) (hU : Raws w u us) (hY : Raws w y ys) (hV : Raws w v vs) :
    Calls Try.prog 3 #[.int .i64 z, .agg #[u, y, v]] w fun e w' => e = .returned (.bool true) ∧ Below w.heap.size w w' := by
  obtain ⟨p1, c1, rfl⟩ := hU.form
  obtain ⟨p2, c2, rfl⟩ := hY.form
  obtain ⟨p3, c3, rfl⟩ := hV.form
  obtain ⟨l1, hl1⟩ : ∃ l, us.length = l := ⟨_, rfl⟩
  obtain ⟨l2, hl2⟩ : ∃ l, ys.length = l := ⟨_, rfl⟩
  obtain ⟨l3, hl3⟩ : ∃ l, vs.length = l := ⟨_, rfl⟩
  rw [hl1] at hU ⊢
  rw [hl2] at hY ⊢
  rw [hl3] at hV ⊢
  have HR := Lib.hid (And.intro hU (And.intro hY (And.intro hV (And.intro hl1 (And.intro hl2 hl3)))))
  clear hU hY hV hl1 hl2 hl3
  have S := (St.start w).alloc 23 [.slice p1 l1 c1, .slice p2 l2 c2, .slice p3 l3 c3] (w.heap.size)
  try simp only [List.nil_append] at S
  obtain ⟨c0_0, c0_1, c0_2⟩ := S.c3 0 rfl
  go_enter Try.func3, Try.ntmps3
  go_wp2_with fail; clear c0_0 c0_1 c0_2
  refine (S.call (vunit_any 2 (by decide) 1 _)).mono ?_
  clear S
  rintro e w1 ⟨⟨_, rfl, g4, vs4, rfl, hg4, hh4, r4⟩, S, H⟩
  clear H; obtain ⟨c0_0, c0_1, c0_2⟩ := S.c3 0 rfl; clear hg4 hh4 r4
  rw [unitL_len]
  go_wp2_with fail; clear c0_0 c0_1 c0_2
  refine (S.call (tone_len 3 (by decide) _)).mono ?_
  clear S
  rintro e w2 ⟨⟨g5, rfl⟩, S, H⟩
  clear H; obtain ⟨c0_0, c0_1, c0_2⟩ := S.c3 0 rfl
  by_cases h20 : z < 0
  · skip
    go_wp2_with fail
    exact bodyPost_ret (v := .bool true) (by simp [results, Try.f3, go_sem]) rfl (⟨rfl, S.below⟩)
  by_cases h21 : 4 < z
  · skip
    go_wp2_with fail
    exact bodyPost_ret (v := .bool true) (by simp [results, Try.f3, go_sem]) rfl (⟨rfl, S.below⟩)
  obtain ⟨n, hn⟩ : ∃ k : Nat, (k : Int) = z := ⟨z.toNat, by omega⟩
  subst hn
  have hn4 : n ≤ 4 := by omega
  have hnn : n * n ≤ 16 := Nat.le_trans (Nat.mul_le_mul hn4 hn4) (by decide)
  have hm1 : (n : Int) * (n : Int) = ((n * n : Nat) : Int) := by simp
  obtain ⟨m, hm⟩ : ∃ m, m = n * n := ⟨_, rfl⟩
  rw [← hm] at hm1 hnn
  have hw1 : IntKind.i64.wrap ((n : Int) * (n : Int)) = (m : Int) := by rw [hm1]; exact wrap_fit (by omega) (by omega)
  have HN := Lib.hid (And.intro hn4 (And.intro hm hnn))
  have h20' : ¬ ((n : Nat) : Int) < 0 := by omega
  have h21' : ¬ 4 < ((n : Nat) : Int) := by omega
  clear hn4 hm hnn hm1 h20 h21 hz0 hz1
  by_cases h22 : l1 < m
  · have h22' : (l1 : Int) < (m : Int) := by omega
    clear h22; go_wp2_with fail
    exact bodyPost_ret (v := .bool true) (by simp [results, Try.f3, go_sem]) rfl (⟨rfl, S.below⟩)
  have h22' : ¬ (l1 : Int) < (m : Int) := by omega
  by_cases h23 : l2 < n
  · have h23' : (l2 : Int) < (n : Int) := by omega
    clear h22 h23; go_wp2_with fail
    exact bodyPost_ret (v := .bool true) (by simp [results, Try.f3, go_sem]) rfl (⟨rfl, S.below⟩)
  have h23' : ¬ (l2 : Int) < (n : Int) := by omega
  by_cases h24 : l3 < n
  · have h24' : (l3 : Int) < (n : Int) := by omega
    clear h22 h23 h24; go_wp2_with fail
    exact bodyPost_ret (v := .bool true) (by simp [results, Try.f3, go_sem]) rfl (⟨rfl, S.below⟩)
  have h24' : ¬ (l3 : Int) < (n : Int) := by omega
  have HL := Lib.hid (show m ≤ l1 ∧ n ≤ l2 ∧ n ≤ l3 by omega)
  clear h22 h23 h24
  go_upto_region 5 with fail
  clear c0_0 c0_1 c0_2; clear h20' h21' h22' h23' h24' hw1
  replace S := S.drew
  have hc2 : ((n : Nat) : Int) ≤ (c2 : Int) := by
    obtain ⟨_, _, e, _, h, _⟩ := HR.out.2.1
    cases e
    have := HL.out.2.1; have := HR.out.2.2.2.2.1; omega
  have hc3 : ((n : Nat) : Int) ≤ (c3 : Int) := by
    obtain ⟨_, _, e, _, h, _⟩ := HR.out.2.2.1
    cases e
    have := HL.out.2.2; have := HR.out.2.2.2.2.2; omega
  go_region_held3 (fun W => W.cell? ⟨w.heap.size, 1, none⟩ = some (.slice p2 l2 c2) ∧ W.cell? ⟨w.heap.size, 2, none⟩ = some (.slice p3 l3 c3))
    (first | exact ⟨S.c 0 1 rfl rfl, S.c 0 2 rfl rfl⟩)
    (fail)
  clear hc2 hc3; go_wp2_with fail
  generalize decide (l1 < m) = d1
  generalize decide (l2 < n) = d2
  generalize decide (l3 < n) = d3
  generalize decide (((n : Nat) : Int) < 0) = d4
  generalize decide (4 < ((n : Nat) : Int)) = d5
  obtain ⟨W0, hW0⟩ : ∃ W, W = w2.drew := ⟨_, rfl⟩
  rw [← hW0] at S ⊢
  clear hW0
  go_loopw [71, 7] (fun si sa wr => ∃ k : Nat, k ≤ n ∧ si = .int .i64 k ∧ wr.ownsRow W0.heap.size 22 1 sa k (rowsV p1 c1 n k) ∧ Below W0.heap.size W0 wr) (fun si _ _ => n - (intOf si).toNat)
  case atStart => exact ⟨0, by omega, rfl, World.ownsRow_nil _ _ _ _, Below.refl _ _⟩
  case round =>
    obtain ⟨k, hk, rfl, hown, hB⟩ := hrel
    by_cases hlt : k < n
    · obtain ⟨q, hq⟩ : ∃ q, q = k * n := ⟨_, rfl⟩
      have hqm : q + n ≤ m := by
        rw [hq, HN.out.2.1, ← Nat.succ_mul]
        exact Nat.mul_le_mul_right _ hlt
      have hm16 := HN.out.2.2
      have hml := HL.out.1
      have hq1 : (k : Int) * (n : Int) = (q : Int) := by rw [hq]; simp
      obtain ⟨g1, off1, _, _, _, _, _, _, _, _, _, rfl, hg1, _⟩ := HR.out.1.get (j := 0) (by omega)
      have hc1 : l1 ≤ c1 := by
        obtain ⟨_, _, e, _, h, _⟩ := HR.out.1
        cases e
        have := HR.out.2.2.2.1; omega
      have hw1 : IntKind.i64.wrap ((k : Int) * (n : Int)) = (q : Int) := by rw [hq1]; exact wrap_fit (by omega) (by omega)
      have hw2 : IntKind.i64.wrap ((q : Int) + (n : Int)) = ((q + n : Nat) : Int) := by rw [← Int.natCast_add]; exact wrap_fit (by omega) (by omega)
      have hs1 : ((q + n : Nat) : Int) ≤ (c1 : Int) := by omega
      have hs2 : (q : Int) ≤ ((q + n : Nat) : Int) := by omega
      have hki : (k : Int) < ((n : Nat) : Int) := by omega
      have S1 := S.to hB
      have c0_0 := S1.c 0 0 rfl rfl
      have HQ := Lib.hid (And.intro hlt (And.intro hq (And.intro hqm (And.intro hg1 hc1))))
      clear hlt hq hqm hm16 hml hq1 hg1 hc1 hk
      have hbl : Below W0.heap.size W0 (wr.alloc (.cells #[rowV (some ⟨g1, off1, none⟩) c1 n k] 22)) := hB.alloc hB.size _
      have hat : ArrAt (wr.alloc (.cells #[rowV (some ⟨g1, off1, none⟩) c1 n k] 22)) wr.heap.size 0 [rowV (some ⟨g1, off1, none⟩) c1 n k] := lit_at _ _ _
      have hown2 := hown.alloc (.cells #[rowV (some ⟨g1, off1, none⟩) c1 n k] 22)
      have hsz : W0.heap.size ≤ (wr.alloc (.cells #[rowV (some ⟨g1, off1, none⟩) c1 n k] 22)).heap.size := hbl.size
      have hkn : k + 1 ≤ 100000 := by have := HQ.out.1; have := HN.out.1; omega
      have e0 : ((⟨g1, off1, none⟩ : Addr).add (q * 3)) = ⟨g1, off1 + q * 3, none⟩ := by unfold Addr.add; split <;> simp_all
      have er : rowV (some ⟨g1, off1, none⟩) c1 n k = .slice (some ⟨g1, off1 + q * 3, none⟩) n (c1 - q) := by simp only [rowV, Option.map_some, ← HQ.out.2.1, e0]
      rw [er] at hbl hat hown2 hsz
      go_upto_region 11 with (at_builtin; refine append_lists rfl _ _ rfl W0.heap.size _ k _ rfl hown2 (some ⟨wr.heap.size, 0, none⟩) 1 1 _ rfl rfl (fun h => by cases h) (fun g off sp h => by cases h; exact ⟨rfl, hat⟩) (by intro u hu; simp at hu; subst hu; rfl) (Nat.le_refl _) hkn hsz W0.heap.size W0 hbl (Nat.le_refl _) (fun v9 w9 ho9 hB9 _ => ?_))
      have HO := Lib.hid (And.intro ho9 hB9)
      clear hown hbl hat hown2 hsz hB S1 c0_0 ho9 hB9 hs1 hs2 hw1 hw2
      have hk9 : (k : Int) ≤ 4 := by have := HQ.out.1; have := HN.out.1; omega
      go_wp2_with fail
      go_roundw
      case rel => exact ⟨k + 1, HQ.out.1, by go_num, by have := HO.out.1; rw [← er] at this; rw [rowsV, List.range_succ, List.map_append]; exact this, HO.out.2⟩
      case measure => have := HQ.out.1; simp [intOf]; omega
    · have hki : ¬ (k : Int) < ((n : Nat) : Int) := by omega
      have hkn : k = n := by omega
      have hkn : n = k := by omega
      subst hkn
      clear hlt hk
      obtain ⟨pa, ca, rfl, a1, a2, a3⟩ := lists_arr hown
      have HA := Lib.hid (And.intro hown (And.intro hB (And.intro a1 (And.intro a2 a3))))
      have hlit : (wr.alloc (.cells #[.slice p2 n c2, .slice p3 n c3] 22)).ownsRow wr.heap.size 22 1 (.slice (some ⟨wr.heap.size, 0, none⟩) 2 2) 2 [.slice p2 n c2, .slice p3 n c3] := by
        simpa using World.ownsRow_lit (e := 22) (size := 1) (base := wr.heap.size) wr #[.slice p2 n c2, .slice p3 n c3] 2 (Nat.le_refl _) (by decide) rfl
      have hbl2 : Below wr.heap.size wr (wr.alloc (.cells #[.slice p2 n c2, .slice p3 n c3] 22)) := (Below.refl _ wr).alloc (Nat.le_refl _) _
      have hn9 : 2 + n ≤ 100000 := by have := HN.out.1; omega
      clear a1 a2 a3 hown
      go_upto_region 13 with (at_builtin; refine append_lists rfl _ _ rfl wr.heap.size _ 2 _ rfl hlit pa n ca (rowsV p1 c1 n n) rfl (rowsV_len _ _ _ _) HA.out.2.2.1 (fun g off sp e => ⟨(HA.out.2.2.2.2 g off sp e).1, (HA.out.2.2.2.2 g off sp e).2.1.to (HA.out.2.2.2.2 g off sp e).2.2 hbl2⟩) (rowsV_one _ _ _ _) HA.out.2.2.2.1 hn9 hbl2.size wr.heap.size wr hbl2 (Nat.le_refl _) (fun v10 w10 ho10 hB10 _ => ?_); obtain ⟨pb, cb, rfl, b1, b2, b3⟩ := lists_arr ho10)
      have HO := Lib.hid (And.intro b1 (And.intro b2 (And.intro b3 hB10)))
      have hW10 : Below w.heap.size w w10 := S.below.trans ((hB.mono S.below.size).trans (hB10.mono (Nat.le_trans S.below.size hB.size)))
      have HLS := Lib.hid (allL_ok (HR.out.1.to hW10) (HR.out.2.1.to hW10) (HR.out.2.2.1.to hW10) (by rw [← HN.out.2.1]; exact HL.out.1) HL.out.2.1 HL.out.2.2)
      obtain ⟨LS, hLS⟩ : ∃ L, allL p1 p2 p3 c1 c2 c3 n us ys vs = L := ⟨_, rfl⟩
      have HLE := Lib.hid (And.intro hLS (show LS.length = n + 2 by rw [← hLS]; exact allL_len _ _ _ _ _ _ _ _ _ _))
      rw [hLS] at HLS
      clear b1 b2 b3 hB10 hLS hlit hbl2 hn9 ho10
      go_loopw [95] (fun si wr => ∃ k : Nat, k ≤ n + 2 ∧ si = .int .i64 k ∧ Hid (∀ (j : Nat) v xs, j < k → LS[j]? = some (v, xs) → ∀ x, x ∈ xs → x.Tried 3) ∧ Below w10.heap.size w10 wr) (fun si _ => n + 2 - (intOf si).toNat)
      case atStart => exact ⟨0, by omega, rfl, fun j v xs h => by omega, Below.refl _ _⟩
      case round =>
        obtain ⟨k, hk, rfl, hz, hB2⟩ := hrel
        by_cases hlt : k < n + 2
        · have hj : LS[k]? = some (LS[k]'(by have := HLE.out.2; omega)) := List.getElem?_eq_getElem _
          generalize LS[k]'(by have := HLE.out.2; omega) = r at hj
          obtain ⟨v, xs⟩ := r
          obtain ⟨hv, hR, hxl⟩ := HLS.out k v xs hj
          obtain ⟨q1, d1', rfl⟩ := hR.form
          rw [hxl] at hR hv
          cases pb with
          | none => have := (HO.out.1 rfl).2; omega
          | some ab =>
            obtain ⟨gb, ob, sb⟩ := ab
            obtain ⟨rfl, ha, hgb⟩ := HO.out.2.2.1 gb ob sb rfl
            have a1 := (hB2.cell (p := ⟨gb, ob + k, none⟩) hgb).trans (ha k _ hv)
            have S : St w10 wr [] := ⟨hB2, trivial⟩
            have hki : (k : Int) < ((2 + n : Nat) : Int) := by omega
            have hk9 : (k : Int) ≤ 6 := by have := HN.out.1; omega
            have HQ := Lib.hid (And.intro hlt (And.intro hj (And.intro hxl hR)))
            clear hlt hj hxl hR hk hv ha hB2
            go_upto_region 16 with fail
            clear a1
            generalize decide ((k : Int) < 2 + (n : Int)) = d6
            go_loopw [101] (fun si wr => ∃ i : Nat, i ≤ n ∧ si = .int .i64 i ∧ Hid (∀ (j : Nat) x, j < i → xs[j]? = some x → x.Tried 3) ∧ St w10 wr []) (fun si _ => n - (intOf si).toNat)
            case atStart => exact ⟨0, by omega, rfl, fun j x h => by omega, S⟩
            case round =>
              clear S
              obtain ⟨i, hi, rfl, hy, S⟩ := hrel
              by_cases hil : i < n
              · obtain ⟨g2, off, b1, p1', l1', K1, p2', l2', K2, es1, es2, rfl, hg, a0, a1, a2, hx, hl1, hl2, at1, at2, dd1, dd2⟩ := HQ.out.2.2.2.get hil
                replace a0 := (S.below.cell (p := ⟨g2, off + i * 3, none⟩) hg).trans a0
                replace a1 := (S.below.cell (p := ⟨g2, off + i * 3 + 1, none⟩) hg).trans a1
                replace a2 := (S.below.cell (p := ⟨g2, off + i * 3 + 2, none⟩) hg).trans a2
                replace at1 := at1.below S.below (Nat.le_refl _)
                replace at2 := at2.below S.below (Nat.le_refl _)
                have hii : (i : Int) < ((n : Nat) : Int) := by omega
                have hi9 : (i : Int) ≤ 4 := by have := HN.out.1; omega
                have HX := Lib.hid (And.intro hx (And.intro hl1 (And.intro hl2 hil)))
                clear hx hl1 hl2 hg hil hi
                have H := S.hnew 32 [.bool b1, .slice p1' l1' K1, .slice p2' l2' K2]
                replace S := S.al 32 [.bool b1, .slice p1' l1' K1, .slice p2' l2' K2] (wr.heap.size)
                replace at1 := at1.hold H; replace at2 := at2.hold H
                clear H; obtain ⟨c0_0, c0_1, c0_2⟩ := S.c3 0 rfl; go_wp2_with fail; clear c0_0 c0_1 c0_2
                refine (S.call (rcheck_all b1 p1' p2' K1 K2 l1' l2' es1 es2 _ at1 at2 dd1 dd2 HX.out.2.1 HX.out.2.2.1)).mono ?_
                clear S
                rintro e w17 ⟨⟨c, rfl, hc⟩, S, H⟩
                clear H at1 at2 dd1 dd2 a0 a1 a2; obtain ⟨c0_0, c0_1, c0_2⟩ := S.c3 0 rfl
                by_cases h0 : c = 0
                rotate_left
                · have h0' : (c != 0) = true := by simpa using h0
                  clear hc; go_wp2_with fail
                  exact bodyPost_ret (v := .bool true) (by simp [results, Try.f3, go_sem]) rfl (⟨rfl, hW10.trans (S.below.mono hW10.size)⟩)
                have h0' : (c != 0) = false := by rw [h0]; rfl
                have hv := Lib.hid (hc.out h0)
                clear h0 hc
                by_cases h31 : 3 < l1'
                · have h31' : (3 : Int) < ((l1' : Nat) : Int) := by omega
                  go_wp2_with fail
                  exact bodyPost_ret (v := .bool true) (by simp [results, Try.f3, go_sem]) rfl (⟨rfl, hW10.trans (S.below.mono hW10.size)⟩)
                have h31' : ¬ (3 : Int) < ((l1' : Nat) : Int) := by omega
                by_cases h32 : 3 < l2'
                · have h32' : (3 : Int) < ((l2' : Nat) : Int) := by omega
                  go_wp2_with fail
                  exact bodyPost_ret (v := .bool true) (by simp [results, Try.f3, go_sem]) rfl (⟨rfl, hW10.trans (S.below.mono hW10.size)⟩)
                have h32' : ¬ (3 : Int) < ((l2' : Nat) : Int) := by omega
                have HT3 : Hid (TriedR 3 b1 es1 es2) := ⟨by have := HX.out.2.1; omega, by have := HX.out.2.2.1; omega, hv.out⟩
                clear h31 h32 hv; go_wp2_with fail
                replace S := S.take 0 (L := []) rfl
                go_roundw
                case rel =>
                  refine ⟨i + 1, by have := HX.out.2.2.2; omega, by go_num, fun j x hj hx => ?_, S⟩
                  by_cases e : j = i
                  · subst e
                    rw [HX.out.1] at hx
                    cases hx
                    exact HT3.out
                  · exact hy.out j x (by omega) hx
                case measure => have := HX.out.2.2.2; simp [intOf]; omega
              · have hii : ¬ (i : Int) < ((n : Nat) : Int) := by omega
                have hin : n = i := by omega
                subst hin
                clear hil hi; go_wp2_with fail
                go_roundw
                case rel =>
                  refine ⟨k + 1, by have := HQ.out.1; omega, by go_num, fun j v' ys' hj' hv' => ?_, S.below⟩
                  by_cases e : j = k
                  · subst e
                    rw [HQ.out.2.1] at hv'
                    cases hv'
                    intro x hx
                    obtain ⟨t, ht⟩ := List.getElem?_of_mem hx
                    have htl := (List.getElem?_eq_some_iff.1 ht).1
                    have := HQ.out.2.2.1
                    exact hy.out t x (by omega) ht
                  · exact hz.out j v' ys' (by omega) hv'
                case measure => have := HQ.out.1; simp [intOf]; omega
        · have hki : ¬ (k : Int) < ((2 + n : Nat) : Int) := by omega
          have hkn : k = n + 2 := by omega
          subst hkn
          clear hlt hk
          have hT := Lib.hid (fun (j : Nat) v xs (h : LS[j]? = some (v, xs)) => allQ_ex (k := 3) (xs := xs) fun x hx => ⟨hz.out j v xs (by have := (List.getElem?_eq_some_iff.1 h).1; have := HLE.out.2; omega) h x hx, (HLS.out j v xs h).2.1.dig x hx⟩)
          clear hz
          obtain ⟨xr, hxr⟩ := hT.out 0 _ _ (by rw [← HLE.out.1]; rfl)
          obtain ⟨yr, hyr⟩ := hT.out 1 _ _ (by rw [← HLE.out.1]; rfl)
          obtain ⟨A, hAl, hAq⟩ := list_of (P := fun j r => AllQ 3 (rowR us n j) r) n fun j hj => hT.out (j + 2) _ _ (by rw [← HLE.out.1]; exact allL_row hj)
          have hRx := raws_take HR.out.2.1 HL.out.2.1
          have hRy := raws_take HR.out.2.2.1 HL.out.2.2
          have hRr : ∀ j, j < n → Raws w (rowV p1 c1 n j) (rowR us n j) ∧ (rowR us n j).length = n := fun j hj => raws_row HR.out.1 (by
            rw [← Nat.succ_mul]
            exact Nat.le_trans (Nat.mul_le_mul_right n (show j.succ ≤ n from hj)) (by rw [← HN.out.2.1]; exact HL.out.1))
          have hB0 : Below w.heap.size w W0 := S.below
          have HX := Lib.hid (And.intro (hRx.1.rats hxr) (And.intro (hxr.1.symm.trans hRx.2) hxr.rb))
          have HY := Lib.hid (And.intro (hRy.1.rats hyr) (And.intro (hyr.1.symm.trans hRy.2) hyr.rb))
          have hm : ∀ r, r ∈ A → r.length = n ∧ ∀ q, q ∈ r → RB q 3 := by
            intro r hr
            obtain ⟨j, hj⟩ := List.getElem?_of_mem hr
            have hjl := (List.getElem?_eq_some_iff.1 hj).1
            have h1 := hAq j r hj
            exact ⟨h1.1.symm.trans (hRr j (by omega)).2, h1.rb⟩
          have hTA : Tabs2 w10 (.slice pa n ca) A := (tabs_own HA.out.1 hAl (fun j u row h1 h2 => by
            obtain ⟨rfl, hj⟩ := rowsV_from h1
            exact ((hRr j hj).1.to (hB0.trans (hB.mono hB0.size))).rats (hAq j row h2))).to HO.out.2.2.2
          have HTA := Lib.hid (And.intro (hTA.to hB2) (And.intro hAl (And.intro (fun r hr => (hm r hr).1) (fun r hr => (hm r hr).2))))
          have HE := Lib.hid (turn_dot (n := n) (A := A) (xs := xr) (ys := yr) hAl (fun r hr => (hm r hr).1) HX.out.2.1 HY.out.2.1)
          have hV : Below w.heap.size w wr := hW10.trans (hB2.mono hW10.size)
          have S0 := S
          clear S
          have S : St w wr [] := ⟨hV, trivial⟩
          clear hT hxr hyr hAq hRx hRy hRr hm hTA hV S0 hB2 hB0 hAl hki
          have hn6 : n ≤ 1000000 ∧ n ≤ 100 := by have := HN.out.1; omega
          have HNN := Lib.hid hn6
          clear hn6; go_wp2_with fail
          refine (S.callB (tturn_any HTA.out.1 n n HTA.out.2.1 HNN.out.1 (colsL_same HTA.out.2.1 HTA.out.2.2.1) HNN.out.1 HTA.out.2.2.1 (fun r hr q hq => rb_max (HTA.out.2.2.2 r hr q hq) (by decide)))).mono ?_
          have HV := Lib.hid (And.intro HTA.out.1 S.below)
          clear S
          rintro e w21 ⟨⟨g6, C6, vs6, rfl, hC, hLo⟩, S, HB⟩
          have hT2 : Tabs2 w21 (.slice (some ⟨g6, 0, none⟩) n n) (turnL A) := by
            have h := hC.tabs hLo (n := n) (by simp)
            rw [turnL, HTA.out.2.1]
            exact h
          have HT2 := Lib.hid (And.intro (HTA.out.1.to HB) hT2)
          clear hC hLo HB hT2; go_wp2_with fail
          have HIN := S.ins
          refine (S.callB (tapply_any HT2.out.1 (HX.out.1.to S.below) HTA.out.2.1 HNN.out.1 HTA.out.2.2.1 HX.out.2.1 HNN.out.2 HTA.out.2.2.2 HX.out.2.2 (by have := HN.out.1; omega))).mono ?_
          clear S
          rintro e w22 ⟨⟨_, rfl, g7, vs7, rfl, hg, hh, r7⟩, S, HB⟩
          have HT3 := Lib.hid (HT2.out.2.to HB)
          clear HB
          rw [List.length_map, HTA.out.2.1]
          replace S := S.adoptF HIN hg hh
          try simp only [List.cons_append, List.nil_append] at S
          clear HIN hg hh; go_wp2_with fail
          have HIN := S.ins
          refine (S.call (tapply_any HT3.out (HY.out.1.to S.below) (by rw [turnL_len]; exact HTA.out.2.1) HNN.out.1 (turnL_all HTA.out.2.1 HTA.out.2.2.1 HTA.out.2.2.2).1 HY.out.2.1 HNN.out.2 (turnL_all HTA.out.2.1 HTA.out.2.2.1 HTA.out.2.2.2).2 HY.out.2.2 (by have := HN.out.1; omega))).mono ?_
          clear S
          rintro e w31 ⟨⟨_, rfl, g8, vs8, rfl, hg, hh, r8⟩, S, H⟩
          replace r7 := r7.hold H; clear H
          rw [List.length_map, turnL_len, HTA.out.2.1]
          replace S := S.adoptF HIN hg hh
          try simp only [List.cons_append, List.nil_append] at S
          clear HIN hg hh
          have hl7 : n = (A.map fun r => dotL r xr).length := by rw [List.length_map, HTA.out.2.1]
          have hl8 : n = ((turnL A).map fun r => dotL r yr).length := by rw [List.length_map, turnL_len, HTA.out.2.1]
          have HK := Lib.hid (show (3 + 3 + 1) * n + 1 ≤ 29 ∧ (29 + 3 + 1) * n + 1 ≤ 133 ∧ (3 + 29 + 1) * n + 1 ≤ 133 by have := HN.out.1; omega)
          have HP := Lib.hid (And.intro hl7 (fun q hq => RB.mono (rb_on HTA.out.2.2.1 HX.out.2.1 HTA.out.2.2.2 HX.out.2.2 q hq) HK.out.1))
          have HS := Lib.hid (And.intro hl8 (fun q hq => RB.mono (rb_on (turnL_all HTA.out.2.1 HTA.out.2.2.1 HTA.out.2.2.2).1 HY.out.2.1 (turnL_all HTA.out.2.1 HTA.out.2.2.1 HTA.out.2.2.2).2 HY.out.2.2 q hq) HK.out.1))
          clear hl7 hl8
          by_cases h0 : n = 0
          · have h0' : (((n : Nat) : Int) == 0) = true := by simpa using h0
            clear h0; go_wp2_with fail
            exact bodyPost_ret (v := .bool true) (by simp [results, Try.f3, go_sem]) rfl (⟨rfl, S.below⟩)
          have h0' : (((n : Nat) : Int) == 0) = false := by simpa using h0
          clear h0; go_wp2_with fail
          refine (S.call (vdot_any (S.rats 0 rfl r7 HP.out.1 (Nat.le_refl _)) (HY.out.1.to S.below) n HP.out.1.symm HY.out.2.1 HNN.out.2 (k1 := 29) (k2 := 3) HP.out.2 HY.out.2.2 (by have := HN.out.1; omega))).mono ?_
          clear S
          rintro e w32 ⟨⟨_, rfl, b9, p9, l9, K9, q9, j9, J9, rfl, h9, n9, d9⟩, S, H⟩
          replace r7 := r7.hold H; replace r8 := r8.hold H
          clear H; clear h0'
          have H := S.hnew 32 [.bool b9, .slice p9 l9 K9, .slice q9 j9 J9]
          replace S := S.al 32 [.bool b9, .slice p9 l9 K9, .slice q9 j9 J9] (w32.heap.size)
          refine iv4 H r7 r8 n9 d9 ?_; clear r7 r8 n9 d9; intro r7 r8 n9 d9
          clear H; obtain ⟨c2_0, c2_1, c2_2⟩ := S.c3 2 rfl; go_wp2_with fail; clear c2_0 c2_1 c2_2
          refine (S.call (vdot_any (HX.out.1.to S.below) (S.rats 1 rfl r8 HS.out.1 (Nat.le_refl _)) n HX.out.2.1 HS.out.1.symm HNN.out.2 (k1 := 3) (k2 := 29) HX.out.2.2 HS.out.2 (by have := HN.out.1; omega))).mono ?_
          clear S
          rintro e w33 ⟨⟨_, rfl, b10, p10, l10, K10, q10, j10, J10, rfl, h10, n10, d10⟩, S, H⟩
          refine iv4 H r7 r8 n9 d9 ?_; clear r7 r8 n9 d9; intro r7 r8 n9 d9
          clear H; obtain ⟨c2_0, c2_1, c2_2⟩ := S.c3 2 rfl; clear r7 r8
          have H := S.hnew 32 [.bool b10, .slice p10 l10 K10, .slice q10 j10 J10]
          replace S := S.al 32 [.bool b10, .slice p10 l10 K10, .slice q10 j10 J10] (w33.heap.size)
          refine iv4 H n9 d9 n10 d10 ?_; clear n9 d9 n10 d10; intro n9 d9 n10 d10
          clear H; clear c2_0 c2_1 c2_2; obtain ⟨c2_0, c2_1, c2_2⟩ := S.c3 2 rfl; obtain ⟨c3_0, c3_1, c3_2⟩ := S.c3 3 rfl; go_wp2_with fail; clear c2_0 c2_1 c2_2 c3_0 c3_1 c3_2
          refine (S.call (rcompare_any ⟨b9, p9, l9, K9, q9, j9, J9, rfl, h9, n9, d9⟩ ⟨b10, p10, l10, K10, q10, j10, J10, rfl, h10, n10, d10⟩ (k1 := 133) (k2 := 133) (RB.mono (rb_dot HP.out.1.symm HY.out.2.1 HP.out.2 HY.out.2.2) HK.out.2.1) (RB.mono (rb_dot HX.out.2.1 HS.out.1.symm HX.out.2.2 HS.out.2) HK.out.2.2) (by decide) 0 (by have h := HE.out; unfold onL at h; rw [h]; unfold cmpR cmpI; simp))).mono ?_
          clear S
          rintro e w34 ⟨rfl, S, H⟩
          refine iv4 H n9 d9 n10 d10 ?_; clear n9 d9 n10 d10; intro n9 d9 n10 d10
          clear H; obtain ⟨c2_0, c2_1, c2_2⟩ := S.c3 2 rfl; obtain ⟨c3_0, c3_1, c3_2⟩ := S.c3 3 rfl; go_wp2_with fail
          exact bodyPost_ret (v := .bool true) (by simp [results, Try.f3, go_sem]) rfl (⟨rfl, S.below⟩)
end Go.Proofs.Ytcfgefbkeeedgaa
