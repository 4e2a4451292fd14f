/-
  girdlelaw09.LexRemarks, as a walk: whatever the lines and the remark, it returns true.
-/
import Derived.Test.YtcdmojefheipoaaI09back
import Derived.Test.YtcdmojefheipoaaOpenStrs
namespace Go.Proofs.Ytcdmojefheipoaa
open Go.RowKit

/-- Tokens of the same kinds and texts. -/
theorem same_toks {l m : List Tk} (a b : Nat) (hm : l.map kt = m.map kt) : m.length = l.length ∧ ∀ (j : Nat) (t : Tk), (l ++ [(⟨4, a, ⟨#[]⟩⟩ : Tk)])[j]? = some t → ∃ u : Tk, (m ++ [(⟨4, b, ⟨#[]⟩⟩ : Tk)])[j]? = some u ∧ u.k = t.k ∧ u.t = t.t := by
  have hml : m.length = l.length := by have := congrArg List.length hm; simpa using this.symm
  refine ⟨hml, fun j t ht => ?_⟩
  by_cases hj : j < l.length
  · rw [List.getElem?_append_left hj] at ht
    have hu : m[j]? = some (m[j]'(by omega)) := List.getElem?_eq_getElem (by omega)
    refine ⟨m[j]'(by omega), by rw [List.getElem?_append_left (by omega)]; exact hu, ?_⟩
    have e1 : (l.map kt)[j]? = some (kt t) := by rw [List.getElem?_map, ht]; rfl
    rw [hm, List.getElem?_map, hu] at e1
    have e2 := Option.some.inj e1
    exact ⟨congrArg Prod.fst e2, bs_inj (congrArg Prod.snd e2)⟩
  · rw [List.getElem?_append_right (by omega)] at ht
    have h0 : j - l.length = 0 := by have := (List.getElem?_eq_some_iff.1 ht).1; simpa using this
    rw [h0] at ht
    cases ht
    refine ⟨⟨4, b, ⟨#[]⟩⟩, ?_, rfl, rfl⟩
    rw [List.getElem?_append_right (by omega), hml, h0]; rfl
/-- Texts put together, with one between two. -/
def joinB (xs : List ByteArray) (sep : List UInt8) : ByteArray := ⟨(Lib.join (xs.map (·.data.toList)) sep).toArray⟩
theorem join_map (sep : List UInt8) : ∀ xs : List (List UInt8), (Lib.join xs sep).map UInt8.toNat = linesG (sep.map UInt8.toNat) (xs.map fun l => l.map UInt8.toNat)
  | [] => rfl
  | [x] => by rw [Lib.join_one]; rfl
  | x :: y :: r => by
    have ih := join_map sep (y :: r)
    rw [Lib.join_cons] at ih ⊢
    show (x ++ Lib.joinTail sep (y :: r)).map UInt8.toNat = x.map UInt8.toNat ++ (sep.map UInt8.toNat ++ linesG _ ((y :: r).map _))
    rw [← ih]
    simp [Lib.joinTail]
theorem joinB_bs (xs : List ByteArray) (sep : List UInt8) : bs (joinB xs sep) = linesG (sep.map UInt8.toNat) (xs.map bs) := by
  have := join_map sep (xs.map (·.data.toList))
  rw [List.map_map] at this
  exact this
theorem linesG_len (m : List Nat) (k : Nat) : ∀ ls : List (List Nat), (∀ l, l ∈ ls → l.length ≤ k) → (linesG m ls).length ≤ ls.length * (k + m.length)
  | [], _ => by simp [linesG]
  | [u], h => by have := h u (by simp); simp [linesG]; omega
  | u :: v :: r, h => by
    have h1 := h u (by simp)
    have ih := linesG_len m k (v :: r) fun l hl => h l (by simp [hl])
    simp only [linesG, List.length_append, List.length_cons] at ih ⊢
    rw [Nat.add_mul _ 1]
    omega
theorem joinB_size {xs : List ByteArray} {sep : List UInt8} (hn : xs.length ≤ 50) (hx : ∀ x ∈ xs, x.size ≤ 100) (hs : sep.length ≤ 200) : (joinB xs sep).size ≤ 16000 := by
  have h := linesG_len (sep.map UInt8.toNat) 100 (xs.map bs) (fun l hl => by
    obtain ⟨x, hx', rfl⟩ := List.mem_map.1 hl
    rw [bs_len]; exact hx x hx')
  rw [← joinB_bs, bs_len, List.length_map, List.length_map] at h
  have : xs.length * (100 + sep.length) ≤ 50 * 300 := Nat.mul_le_mul hn (by omega)
  omega
/-- A line that is let in. -/
def LineOk (x : ByteArray) : Prop := x.size ≤ 100 ∧ (10 : UInt8) ∉ x.data.toList ∧ (35 : UInt8) ∉ x.data.toList
theorem not_bs {x : ByteArray} {c : UInt8} (h : c ∉ x.data.toList) : ∀ b, b ∈ bs x → b ≠ c.toNat := by
  intro b hb e
  obtain ⟨d, hd, rfl⟩ := List.mem_map.1 hb
  exact h (UInt8.toNat_inj.1 e ▸ hd)
/-- Remarks and blanks at lines' ends change no token. -/
theorem remark_all {xs : List ByteArray} {r : ByteArray} (hx : ∀ x ∈ xs, LineOk x) (hr : (10 : UInt8) ∉ r.data.toList) : scanF (dropL (bs (joinB xs [10]))) = scanF (dropL (bs (joinB xs ([32, 9, 35] ++ r.data.toList ++ [10])))) := by
  rw [joinB_bs, joinB_bs]
  have e : ([32, 9, 35] ++ r.data.toList ++ [10] : List UInt8).map UInt8.toNat = 32 :: 9 :: 35 :: (bs r ++ [10]) := by simp [bs]
  rw [e]
  cases xs with
  | nil => rfl
  | cons x xs =>
    show scanF (dropL (linesG [10] (bs x :: xs.map bs))) = scanF (dropL (linesG (32 :: 9 :: 35 :: (bs r ++ [10])) (bs x :: xs.map bs)))
    rw [linesG_cons, linesG_cons]
    refine scanF_remark (t := bs r) (fun c hc => not_bs hr c hc) _ (bs x) (xs.map bs) (Nat.le_refl _) (fun c hc => ?_) (fun l hl c hc => ?_)
    · have := hx x (by simp)
      exact ⟨not_bs this.2.1 c hc, not_bs this.2.2 c hc⟩
    · obtain ⟨y, hy, rfl⟩ := List.mem_map.1 hl
      have := hx y (by simp [hy])
      exact ⟨not_bs this.2.1 c hc, not_bs this.2.2 c hc⟩
theorem index_not {l : List UInt8} {c : UInt8} (h : decide (0 ≤ Lib.indexByte l c) = false) : c ∉ l := by
  intro hm
  have h0 := Lib.indexByte_ge l c
  have h1 : Lib.indexByte l c = -1 := by simp at h; omega
  obtain ⟨k, hk⟩ := List.mem_iff_getElem?.1 hm
  exact Lib.indexByte_none h1 k hk
theorem index_yes {l : List UInt8} {c : UInt8} (h : c ∉ l) : decide (0 ≤ Lib.indexByte l c) = false := by
  rw [decide_eq_false_iff_not]
  intro h0
  obtain ⟨o, ho⟩ : ∃ o : Nat, Lib.indexByte l c = o := ⟨(Lib.indexByte l c).toNat, by omega⟩
  exact h (List.mem_iff_getElem?.2 ⟨o, (Lib.indexByte_some ho).1⟩)
theorem Strs.get {w W : World} {p : Option Addr} {n c : Nat} {xs : List ByteArray} (h : Strs w (.slice p n c) xs) (hB : Below w.heap.size w W) {j : Nat} (hj : j < n) : ∃ b off x, p = some ⟨b, off, none⟩ ∧ xs[j]? = some x ∧ W.cell? ⟨b, off + j, none⟩ = some (.string x) := by
  rcases h with ⟨e, _⟩ | ⟨b, off, c', e, h1, _, _, h2⟩
  · cases e; omega
  · cases e
    have hx : xs[j]? = some (xs[j]'hj) := List.getElem?_eq_getElem _
    exact ⟨b, off, _, rfl, hx, (hB.cell (p := ⟨b, off + j, none⟩) h1).trans (h2 j _ hx)⟩
theorem sjoin_any {w W : World} {p : Option Addr} {n c : Nat} {xs : List ByteArray} (h : Strs w (.slice p n c) xs) (hB : Below w.heap.size w W) (hn : xs.length ≤ 50) (hx : ∀ x ∈ xs, x.size ≤ 100) (sep : ByteArray) (hs : sep.size ≤ 200) :
    Calls Try.prog 13 #[.slice p n c, .string sep] W fun e w' => e = .returned (.string (joinB xs sep.data.toList)) ∧ Below W.heap.size W w' := by
  have hz := joinB_size (sep := sep.data.toList) hn hx (by rw [Array.length_toList]; exact hs)
  rcases h with ⟨e, rfl⟩ | ⟨b, off, c', e, h1, h3, _, h2⟩
  · cases e
    exact (Try.strings_Join_none none 0 sep W).mono fun e w' h => ⟨h.1, h.2 ▸ Below.refl _ _⟩
  · cases e
    exact Try.strings_Join b off c xs sep W (fun j x hj => (hB.cell (p := ⟨b, off + j, none⟩) h1).trans (h2 j x hj)) (Nat.lt_of_lt_of_le h1 hB.size) (by omega) h3 (by
      show (joinB xs sep.data.toList).size ≤ _; omega)
/-- What loop and test let in. -/
theorem line_test (x : ByteArray) : (decide (100 < (x.size : Int)) = false ∧ decide (0 ≤ Lib.indexByte x.data.toList 10) = false ∧ decide (0 ≤ Lib.indexByte x.data.toList 35) = false) → LineOk x := fun ⟨h1, h2, h3⟩ => ⟨by simp at h1; omega, index_not h2, index_not h3⟩

set_option maxRecDepth 100000 in
set_option maxHeartbeats 8000000 in
theorem lexRemarks_any (v : Value) (xs : List ByteArray) (r : ByteArray) (w : World) (hv : Strs w v xs) (hvx : ∀ x ∈ xs, x.size ≤ maxLen) (hr : r.size ≤ maxLen) :
    Calls Try.prog 5 #[v, .string r] w fun e w' => e = .returned (.bool true) ∧ Below w.heap.size w w' := by
  have HC := Lib.hid cuts_any
  have hform : ∃ p n c, v = .slice p n c ∧ n = xs.length ∧ n ≤ maxLen := by
    rcases hv with ⟨rfl, rfl⟩ | ⟨b, o, c, rfl, _, h1, h2, _⟩
    · exact ⟨none, 0, 0, rfl, rfl, by unfold maxLen; omega⟩
    · exact ⟨_, _, c, rfl, rfl, Nat.le_trans h1 h2⟩
  obtain ⟨p, n, c, rfl, hn, hnm⟩ := hform
  have HV := Lib.hid (And.intro hv (And.intro hvx hn))
  unfold maxLen at hr hnm
  clear hv hvx hn
  have HCN := Lib.hid (fun (w : World) => Try.strings_Contains_one r 10 w)
  by_cases h1 : 50 < n
  · have h1' : (50 : Int) < (n : Int) := by omega
    go_enter Try.func5, Try.ntmps5
    go_wp2_with fail
    refine (HC.out _).mono ?_
    rintro e w1 ⟨rfl, hB⟩
    go_wp2_with fail
    go_ret
    exact ⟨rfl, hB⟩
  have h1' : ¬ (50 : Int) < (n : Int) := by omega
  by_cases h2 : 100 < r.size
  · have h2' : (100 : Int) < (r.size : Int) := by omega
    go_enter Try.func5, Try.ntmps5
    go_wp2_with fail
    refine (HC.out _).mono ?_
    rintro e w1 ⟨rfl, hB⟩
    go_wp2_with fail
    go_ret
    exact ⟨rfl, hB⟩
  have h2' : ¬ (100 : Int) < (r.size : Int) := by omega
  obtain ⟨b3, hb3⟩ : ∃ b, decide (0 ≤ Lib.indexByte r.data.toList 10) = b := ⟨_, rfl⟩
  rw [hb3] at HCN
  cases b3 with
  | true =>
    clear hb3
    go_enter Try.func5, Try.ntmps5
    go_wp2_with fail
    refine (HC.out _).mono ?_
    rintro e w1 ⟨rfl, hB⟩
    go_wp2_with fail
    refine (HCN.out _).mono ?_
    rintro e w2 ⟨rfl, rfl⟩
    go_wp2_with fail
    go_ret
    exact ⟨rfl, hB⟩
  | false =>
  have HR := Lib.hid (index_not hb3)
  clear hb3
  go_enter Try.func5, Try.ntmps5
  go_wp2_with fail
  refine (HC.out _).mono ?_
  rintro e w1 ⟨rfl, hB⟩
  clear HC
  go_wp2_with fail
  refine (HCN.out _).mono ?_
  rintro e w2 ⟨rfl, rfl⟩
  clear HCN
  have HB := Lib.hid hB
  clear hB
  go_wp2_with fail
  go_loop [28] (fun sj => ∃ j : Nat, j ≤ n ∧ sj = .int .i64 j ∧ Hid (∀ (i : Nat) x, i < j → xs[i]? = some x → LineOk x)) (fun sj => n - (intOf sj).toNat)
  case atStart => exact ⟨0, Nat.zero_le _, rfl, fun i x hi _ => by omega⟩
  case round =>
    obtain ⟨j, hj, rfl, hok⟩ := hrel
    by_cases hlt : j < n
    · obtain ⟨b, off, x, rfl, hx, hcell⟩ := HV.out.1.get HB.out hlt
      have hlt' : (j : Int) < (n : Int) := by omega
      have hj0 : (0 : Int) ≤ (j : Int) := by omega
      have hxs : x.size ≤ 9223372036854775807 := HV.out.2.1 x (List.mem_of_getElem? hx)
      replace hx := Lib.hid hx
      have HC1 := Lib.hid (fun (w : World) => Try.strings_Contains_one x 10 w)
      have HC2 := Lib.hid (fun (w : World) => Try.strings_Contains_one x 35 w)
      obtain ⟨b1, hb1⟩ : ∃ b, decide (0 ≤ Lib.indexByte x.data.toList 10) = b := ⟨_, rfl⟩
      obtain ⟨b2, hb2⟩ : ∃ b, decide (0 ≤ Lib.indexByte x.data.toList 35) = b := ⟨_, rfl⟩
      rw [hb1] at HC1
      rw [hb2] at HC2
      replace hb1 := Lib.hid hb1
      replace hb2 := Lib.hid hb2
      by_cases h3 : 100 < x.size
      · have h3' : (100 : Int) < (x.size : Int) := by omega
        go_wp2_with fail
        go_ret
        exact ⟨rfl, HB.out⟩
      have h3' : ¬ (100 : Int) < (x.size : Int) := by omega
      cases b1 with
      | true =>
        go_wp2_with fail
        refine (HC1.out _).mono ?_
        rintro e w3 ⟨rfl, rfl⟩
        go_wp2_with fail
        go_ret
        exact ⟨rfl, HB.out⟩
      | false =>
      cases b2 with
      | true =>
        go_wp2_with fail
        refine (HC1.out _).mono ?_
        rintro e w3 ⟨rfl, rfl⟩
        go_wp2_with fail
        refine (HC2.out _).mono ?_
        rintro e w4 ⟨rfl, rfl⟩
        go_wp2_with fail
        go_ret
        exact ⟨rfl, HB.out⟩
      | false =>
        go_wp2_with fail
        refine (HC1.out _).mono ?_
        rintro e w3 ⟨rfl, rfl⟩
        go_wp2_with fail
        refine (HC2.out _).mono ?_
        rintro e w4 ⟨rfl, rfl⟩
        go_wp2_with fail
        have hok' : Hid (∀ (i : Nat) y, i < j + 1 → xs[i]? = some y → LineOk y) := fun i y hi hy => by
          by_cases hij : i < j
          · exact hok.out i y hij hy
          · obtain rfl : i = j := by omega
            rw [hx.out] at hy
            cases hy
            exact ⟨by omega, index_not hb1.out, index_not hb2.out⟩
        go_round
        case rel => exact ⟨j + 1, by omega, by go_num, hok'⟩
        case measure => simp [intOf]; omega
    · obtain rfl : j = n := by omega
      have hall : ∀ x ∈ xs, LineOk x := fun x hx => by
        obtain ⟨i, hi⟩ := List.mem_iff_getElem?.1 hx
        exact hok.out i x (by rw [HV.out.2.2]; exact (List.getElem?_eq_some_iff.1 hi).1) hi
      have hxn : xs.length ≤ 50 := by rw [← HV.out.2.2]; omega
      have hrem := remark_all hall HR.out
      have hzA := joinB_size (sep := [10]) hxn (fun x hx => (hall x hx).1) (by simp)
      have hzB := joinB_size (sep := [32, 9, 35] ++ r.data.toList ++ [10]) hxn (fun x hx => (hall x hx).1) (by
        have : r.data.toList.length = r.size := rfl
        simp only [List.length_append, List.length_cons, List.length_nil]; omega)
      have hJA := sjoin_any (W := w2) HV.out.1 HB.out hxn (fun x hx => (hall x hx).1) ⟨#[10]⟩ (by decide)
      have HJB := Lib.hid (fun (W : World) (hW : Below w.heap.size w W) => sjoin_any HV.out.1 hW hxn (fun x hx => (hall x hx).1) (⟨#[32, 9, 35]⟩ ++ r ++ ⟨#[10]⟩) (by
        rw [ByteArray.size_append, ByteArray.size_append]; show 3 + r.size + 1 ≤ 200; omega))
      rw [show (⟨#[32, 9, 35]⟩ ++ r ++ ⟨#[10]⟩ : ByteArray).data.toList = [32, 9, 35] ++ r.data.toList ++ [10] by simp] at HJB
      obtain ⟨A, hA⟩ : ∃ A, joinB xs [10] = A := ⟨_, rfl⟩
      obtain ⟨B, hB⟩ : ∃ B, joinB xs ([32, 9, 35] ++ r.data.toList ++ [10]) = B := ⟨_, rfl⟩
      replace hJA : Calls Try.prog 13 #[.slice p j c, .string ⟨#[10]⟩] w2 fun e w' => e = .returned (.string (joinB xs [10])) ∧ Below w2.heap.size w2 w' := hJA
      rw [hA] at hJA hrem hzA
      rw [hB] at HJB hrem hzB
      have HJA := Lib.hid hJA
      have HM := Lib.hid (And.intro hrem (And.intro hzA hzB))
      have hr3 : (3 : Nat) + r.size ≤ 9223372036854775807 := by omega
      clear hall hrem hzA hzB hJA hA hB hok
      go_wp2_with fail
      refine HJA.out.mono ?_
      rintro e w3 ⟨rfl, hB3⟩
      have HB3 := Lib.hid (HB.out.trans (hB3.mono HB.out.size))
      clear hB3 HB HJA
      go_wp2_with fail
      refine (scan_any A w3).mono ?_
      rintro e w4 ⟨hz, hB4⟩
      have HB4 := Lib.hid (HB3.out.trans (hB4.mono HB3.out.size))
      clear HB3 hB4
      unfold ScanOut at hz
      rcases scanL_is A HM.out.2.1 with ⟨hf, q, _, hq⟩ | ⟨l, hf, hq, _, hln⟩
      · rw [hq] at hz
        subst hz
        rw [HM.out.1] at hf
        replace hf := Lib.hid hf
        have hA : Below w4.heap.size w4 (w4.alloc (.cells #[.int .i64 2, .int .i64 q] 26)) := (Below.refl _ _).alloc (Nat.le_refl _) _
        have HB5 := Lib.hid (HB4.out.trans (hA.mono HB4.out.size))
        clear hq hA HB4
        have d0 := World.alloc_heap_new w4 (.cells #[.int .i64 2, .int .i64 q] 26)
        go_wp2_with fail
        generalize hw0 : w4.heap.size = f at d0 ⊢
        generalize (w4.alloc (.cells #[.int .i64 2, .int .i64 q] 26)) = W1 at HB5 d0 ⊢
        have hfl := lt_of_heap d0
        refine (HJB.out _ HB5.out).mono ?_
        rintro e w5 ⟨rfl, hB5⟩
        have d1 := (hB5.block f hfl).trans d0
        have HB6 := Lib.hid (HB5.out.trans (hB5.mono HB5.out.size))
        clear hB5 HB5 HJB d0 hw0 hfl
        go_wp2_with fail
        refine (scan_any B w5).mono ?_
        rintro e w6 ⟨hz, hB6⟩
        have d2 := (hB6.block f (lt_of_heap d1)).trans d1
        have HB7 := Lib.hid (HB6.out.trans (hB6.mono HB6.out.size))
        clear hB6 HB6 d1
        unfold ScanOut at hz
        rcases scanL_is B HM.out.2.2 with ⟨_, q2, _, hq⟩ | ⟨m, hf2, _, _, _⟩
        · rw [hq] at hz
          subst hz
          have hA : Below w6.heap.size w6 (w6.alloc (.cells #[.int .i64 2, .int .i64 q2] 26)) := (Below.refl _ _).alloc (Nat.le_refl _) _
          have d3 := (hA.block f (lt_of_heap d2)).trans d2
          have e0 : (w6.alloc (.cells #[.int .i64 2, .int .i64 q2] 26)).cell? ⟨f, 0, none⟩ = some (.int .i64 2) := by rw [Lib.cell_of_heap d3]; rfl
          have HB8 := Lib.hid (HB7.out.trans (hA.mono HB7.out.size))
          clear hA d3 d2 HB7 hq
          go_wp2_with fail
          go_ret
          exact ⟨rfl, HB8.out⟩
        · rw [hf.out] at hf2; cases hf2
      · rw [hq] at hz
        obtain ⟨v, rfl, hT⟩ := hz
        obtain ⟨g, c1, rfl, hT, hg, hc1, _⟩ := hT.at (by simp)
        rw [HM.out.1] at hf
        have hn1 : (l ++ [(⟨4, A.size, ⟨#[]⟩⟩ : Tk)]).length ≤ 16001 := by simp; have := HM.out.2.1; omega
        replace hf := Lib.hid hf
        obtain ⟨L, hL⟩ : ∃ L, l ++ [⟨4, A.size, ⟨#[]⟩⟩] = L := ⟨_, rfl⟩
        rw [hL] at hT hc1 hn1 ⊢
        obtain ⟨k, hk⟩ : ∃ n, L.length = n := ⟨_, rfl⟩
        rw [hk] at hc1 hn1 ⊢
        have HL := Lib.hid (And.intro hL hk)
        clear hq hL hk hln
        have hA : Below w4.heap.size w4 (w4.alloc (.cells #[.int .i64 0, .int .i64 0] 26)) := (Below.refl _ _).alloc (Nat.le_refl _) _
        replace hT := hT.to hg hA
        replace hg := Nat.lt_of_lt_of_le hg hA.size
        have HB5 := Lib.hid (HB4.out.trans (hA.mono HB4.out.size))
        clear hA HB4
        have d0 := World.alloc_heap_new w4 (.cells #[.int .i64 0, .int .i64 0] 26)
        go_wp2_with fail
        generalize hw0 : w4.heap.size = f at d0 ⊢
        generalize (w4.alloc (.cells #[.int .i64 0, .int .i64 0] 26)) = W1 at HB5 d0 hT hg ⊢
        have hfl := lt_of_heap d0
        refine (HJB.out _ HB5.out).mono ?_
        rintro e w5 ⟨rfl, hB5⟩
        have d1 := (hB5.block f hfl).trans d0
        replace hT := hT.to hg hB5
        replace hg := Nat.lt_of_lt_of_le hg hB5.size
        have HB6 := Lib.hid (HB5.out.trans (hB5.mono HB5.out.size))
        clear hB5 HB5 HJB d0 hw0 hfl
        go_wp2_with fail
        refine (scan_any B w5).mono ?_
        rintro e w6 ⟨hz, hB6⟩
        have d2 := (hB6.block f (lt_of_heap d1)).trans d1
        replace hT := hT.to hg hB6
        replace hg := Nat.lt_of_lt_of_le hg hB6.size
        have HB7 := Lib.hid (HB6.out.trans (hB6.mono HB6.out.size))
        clear hB6 HB6 d1
        unfold ScanOut at hz
        rcases scanL_is B HM.out.2.2 with ⟨hf2, _⟩ | ⟨m, hf2, hq, _, _⟩
        · rw [hf.out] at hf2; cases hf2
        rw [hf.out] at hf2
        obtain ⟨hml, hmt⟩ := same_toks A.size B.size (Option.some.inj hf2)
        rw [hq] at hz
        obtain ⟨v, rfl, hT2⟩ := hz
        obtain ⟨g2, c2, rfl, hT2, hg2, hc2, _⟩ := hT2.at (by simp)
        obtain ⟨M, hM⟩ : ∃ M, m ++ [⟨4, B.size, ⟨#[]⟩⟩] = M := ⟨_, rfl⟩
        have hMk : M.length = k := by rw [← HL.out.2, ← HL.out.1, ← hM]; simp [hml]
        rw [hM, HL.out.1] at hmt
        rw [hM] at hT2 hc2 ⊢
        rw [hMk] at hc2 ⊢
        have HMT := Lib.hid hmt
        clear hmt hM hMk hml hq hf2 hf
        have hA : Below w6.heap.size w6 (w6.alloc (.cells #[.int .i64 0, .int .i64 0] 26)) := (Below.refl _ _).alloc (Nat.le_refl _) _
        have d3 := (hA.block f (lt_of_heap d2)).trans d2
        have e0 : (w6.alloc (.cells #[.int .i64 0, .int .i64 0] 26)).cell? ⟨f, 0, none⟩ = some (.int .i64 0) := by rw [Lib.cell_of_heap d3]; rfl
        have e1 : (w6.alloc (.cells #[.int .i64 0, .int .i64 0] 26)).cell? ⟨w6.heap.size, 0, none⟩ = some (.int .i64 0) := by simp [go_sem]
        replace hT := hT.to hg hA
        replace hT2 := hT2.to hg2 hA
        replace hg := Nat.lt_of_lt_of_le hg hA.size
        replace hg2 := Nat.lt_of_lt_of_le hg2 hA.size
        have HB8 := Lib.hid (HB7.out.trans (hA.mono HB7.out.size))
        have hnn : ((k : Int) != (k : Int)) = false := by simp
        clear hA d3 d2 HB7
        go_wp2_with fail
        clear e0 e1
        obtain ⟨W0, hW0⟩ : ∃ W, w6.alloc (.cells #[.int .i64 0, .int .i64 0] 26) = W := ⟨_, rfl⟩
        rw [hW0] at hT hT2 hg hg2 HB8 ⊢
        have HT := Lib.hid (And.intro hT (And.intro hg (And.intro hT2 hg2)))
        clear hW0 hT hg hT2 hg2
        go_loopw [81] (fun sj wr => ∃ i : Nat, i ≤ k ∧ sj = .int .i64 i ∧ Below W0.heap.size W0 wr) (fun sj _ => k - (intOf sj).toNat)
        case atStart => exact ⟨0, Nat.zero_le _, rfl, Below.refl _ _⟩
        case round =>
          obtain ⟨i, hi, rfl, hb0⟩ := hrel
          by_cases hlt : i < k
          · obtain ⟨t, ht⟩ : ∃ t, L[i]? = some t := ⟨L[i]'(by rw [HL.out.2]; exact hlt), List.getElem?_eq_getElem _⟩
            obtain ⟨u, hu, huk, hut⟩ := HMT.out i t ht
            obtain ⟨c0, _, c1⟩ := (HT.out.1.to HT.out.2.1 hb0) i t ht
            obtain ⟨e0, _, e1⟩ := (HT.out.2.2.1.to HT.out.2.2.2 hb0) i u hu
            rw [huk] at e0
            rw [hut] at e1
            have hlt' : (i : Int) < (k : Int) := by omega
            have hj0 : (0 : Int) ≤ (i : Int) := by omega
            have q1 : ((t.k : Int) != (t.k : Int)) = false := by simp
            clear ht hu huk hut
            have HB0 := Lib.hid hb0
            clear hb0
            go_upto_region 20 with fail
            go_quiet (fail)
            go_wp2_with fail
            go_roundw
            case rel => exact ⟨i + 1, by omega, by go_num, HB0.out.drewN' _⟩
            case measure => simp [intOf]; omega
          · obtain rfl : i = k := by omega
            go_wp2_with fail
            go_ret
            exact ⟨rfl, HB8.out.trans (hb0.mono HB8.out.size)⟩

end Go.Proofs.Ytcdmojefheipoaa
