/-
  strings.CutPrefix at "-"; whole.Text and Parse. girdlelaw03.fit: may each of some whole numbers be, and is none of them too long to be tried? Short lists of whole numbers, as a call lays them.
-/
import Derived.Test.YtcopfjooopindaaDoorM03
import Derived.Test.YtcopfjooopindaaDoorM14
import Derived.Test.YtcopfjooopindaaDoorM16
import Derived.Test.YtcopfjooopindaaDoorM18

namespace Go.Proofs.YtcopfjooopindaaDoor
open Go.RowKit

theorem text_len {l : List Nat} {m : Nat} (h : IsText l m) (hm : m < maxN) : l.length ≤ 5463 := by
  by_cases h1 : 1 < l.length
  · have h2 := Nat.lt_of_le_of_lt (h.low h1) hm
    obtain ⟨q, hq⟩ : ∃ q : Nat, q = 32 * 512 := ⟨_, rfl⟩
    rw [maxN_two q 512 rfl hq] at h2
    have h3 := Nat.pow_le_pow_left (show 2 ^ 3 ≤ 10 by decide) (l.length - 1)
    rw [← Nat.pow_mul] at h3
    have := (Nat.pow_lt_pow_iff_right (a := 2) (by decide)).1 (Nat.lt_of_le_of_lt h3 h2)
    omega
  · omega
/-- The text of a whole number: its digits, a - (45) ahead of those below nothing. -/
def IsIText (l : List Nat) (x : Int) : Prop := (x < 0 ∧ ∃ t, l = 45 :: t ∧ IsText t x.natAbs) ∨ (0 ≤ x ∧ IsText l x.natAbs)
theorem bs_dash (s : ByteArray) : bs (⟨#[45]⟩ ++ s) = 45 :: bs s := by
  unfold bs
  rw [ByteArray.data_append]
  simp

theorem dash_head (s : ByteArray) (h : 1 ≤ s.size) : ((s.extract 0 1).toList == [45]) = decide ((bs s).head? = some 45) := by
  rw [Lib.extract_toList]
  unfold bs
  have hl : 1 ≤ s.data.toList.length := by simpa using h
  cases hd : s.data.toList with
  | nil => rw [hd] at hl; simp at hl
  | cons c l =>
    simp
    rw [Bool.eq_iff_iff]
    simp
    exact ⟨fun e => by rw [e]; rfl, fun e => UInt8.toNat_inj.1 e⟩
theorem prefix_any (s : ByteArray) (w : World) (b : Bool) (h : decide ((bs s).head? = some 45) = b) :
    Calls Tryd.prog 84 #[.string s, .string ⟨#[45]⟩] w fun e w' => e = .returned (.bool b) ∧ w' = w := by
  by_cases h0 : s.size = 0
  · have h1 : ¬ (1 ≤ s.size) := by omega
    have hb : b = false := by
      have : bs s = [] := List.eq_nil_of_length_eq_zero (by rw [bs_len]; exact h0)
      rw [← h, this]
      rfl
    subst hb
    clear h h0
    go_enter Tryd.func84, Tryd.ntmps84
    go_wp2
    go_ret
    exact ⟨rfl, rfl⟩
  · have h1 : (1 ≤ s.size) := by omega
    have hd := (dash_head s h1).trans h
    clear h h0
    go_enter Tryd.func84, Tryd.ntmps84
    go_wp2
    go_ret
    exact ⟨rfl, rfl⟩
theorem cutin_no (s : ByteArray) (w : World) (h : (bs s).head? ≠ some 45) :
    Calls Tryd.prog 75 #[.string s, .string ⟨#[45]⟩] w fun e w' => e = .returned (.tuple #[.string s, .bool false]) ∧ w' = w := by
  have H := Lib.hid (prefix_any s w false (decide_eq_false h))
  clear h
  go_enter Tryd.func75, Tryd.ntmps75
  go_wp2_with (go_at_call 84; refine H.out.mono ?_; rintro e w1 ⟨rfl, rfl⟩)
  go_ret2
  exact ⟨rfl, rfl⟩
theorem cutin_yes (s : ByteArray) (w : World) (h : (bs s).head? = some 45) :
    Calls Tryd.prog 75 #[.string s, .string ⟨#[45]⟩] w fun e w' => e = .returned (.tuple #[.string (s.extract 1 s.size), .bool true]) ∧ w' = w := by
  have H := Lib.hid (prefix_any s w true (decide_eq_true h))
  have h1 : 1 ≤ s.size := by
    rw [← bs_len]
    cases hb : bs s with
    | nil => rw [hb] at h; cases h
    | cons => simp
  have h1I : (1 : Int) ≤ s.size := by omega
  clear h
  go_enter Tryd.func75, Tryd.ntmps75
  go_wp2_with (go_at_call 84; refine H.out.mono ?_; rintro e w1 ⟨rfl, rfl⟩)
  go_ret2
  exact ⟨rfl, rfl⟩
theorem cut_no (s : ByteArray) (w : World) (h : (bs s).head? ≠ some 45) :
    Calls Tryd.prog 60 #[.string s, .string ⟨#[45]⟩] w fun e w' => e = .returned (.tuple #[.string s, .bool false]) ∧ Below w.heap.size w w' := by
  have H := Lib.hid (cutin_no s w h)
  clear h
  go_enter Tryd.func60, Tryd.ntmps60
  go_wp2_with (go_at_call 75; refine H.out.mono ?_; rintro e w1 ⟨rfl, rfl⟩)
  go_ret2
  exact ⟨rfl, Below.refl _ _⟩
theorem cut_yes (s : ByteArray) (w : World) (h : (bs s).head? = some 45) :
    Calls Tryd.prog 60 #[.string s, .string ⟨#[45]⟩] w fun e w' => e = .returned (.tuple #[.string (s.extract 1 s.size), .bool true]) ∧ Below w.heap.size w w' := by
  have H := Lib.hid (cutin_yes s w h)
  clear h
  go_enter Tryd.func60, Tryd.ntmps60
  go_wp2_with (go_at_call 75; refine H.out.mono ?_; rintro e w1 ⟨rfl, rfl⟩)
  go_ret2
  exact ⟨rfl, Below.refl _ _⟩

set_option maxRecDepth 100000 in
set_option maxHeartbeats 1000000 in
theorem wtext_any {va : Value} {x : Int} {w : World} (ha : IsInt w va x) (hx : x.natAbs < maxN) :
    Calls Tryd.prog 33 #[va] w fun e w' => (∃ s, e = .returned (.string s) ∧ IsIText (bs s) x) ∧ Below w.heap.size w w' := by
  obtain ⟨p, l, K, rfl, n1⟩ := ha
  obtain ⟨b, hb⟩ : ∃ b, negB x = b := ⟨_, rfl⟩
  rw [hb]
  have HD := Lib.hid (And.intro hb hx)
  clear hb hx
  by_cases h0 : x < 0
  · have hsg := Lib.hid (Int.sign_eq_neg_one_of_neg h0)
    have H0 := Lib.hid h0
    clear h0
    have S := (St.start w).alloc 25 [.bool b, .slice p l K] (w.heap.size)
    replace n1 := n1.hold S.hold
    have c0_0 := S.c 0 0 rfl rfl
    have c0_1 := S.c 0 1 rfl rfl
    go_enter Tryd.func33, Tryd.ntmps33
    go_wp2_with fail
    clear c0_0 c0_1
    refine (S.call (wsign_any ⟨p, l, K, by rw [HD.out.1], n1⟩ HD.out.2 hsg.out)).mono ?_
    clear S
    rintro e w1 ⟨rfl, S, H⟩
    replace n1 := n1.hold H
    clear H
    have c0_0 := S.c 0 0 rfl rfl
    have c0_1 := S.c 0 1 rfl rfl
    go_wp2_with fail
    clear c0_0 c0_1
    refine (S.call (text_any n1 HD.out.2)).mono ?_
    clear S
    rintro e w2 ⟨⟨s, rfl, hs⟩, S, H⟩
    replace n1 := n1.hold H
    clear H
    have c0_0 := S.c 0 0 rfl rfl
    have c0_1 := S.c 0 1 rfl rfl
    have hl := text_len hs HD.out.2
    rw [bs_len] at hl
    have HS := Lib.hid hs
    clear hs
    go_wp2_with fail
    exact bodyPost_ret (v := .string (⟨#[45]⟩ ++ s)) (by simp [results, Tryd.f33, go_sem]) rfl (⟨⟨_, rfl, by rw [bs_dash]; exact .inl ⟨H0.out, _, rfl, HS.out⟩⟩, S.below⟩)
  · obtain ⟨sg, hsg⟩ : ∃ s, x.sign = s := ⟨_, rfl⟩
    have hs0 : ¬ sg < 0 := by rw [← hsg]; have := Int.sign_nonneg_iff.2 (Int.not_lt.1 h0); omega
    have hsg := Lib.hid hsg
    have H0 := Lib.hid h0
    clear h0
    have S := (St.start w).alloc 25 [.bool b, .slice p l K] (w.heap.size)
    replace n1 := n1.hold S.hold
    have c0_0 := S.c 0 0 rfl rfl
    have c0_1 := S.c 0 1 rfl rfl
    go_enter Tryd.func33, Tryd.ntmps33
    go_wp2_with fail
    clear c0_0 c0_1
    refine (S.call (wsign_any ⟨p, l, K, by rw [HD.out.1], n1⟩ HD.out.2 hsg.out)).mono ?_
    clear S
    rintro e w1 ⟨rfl, S, H⟩
    replace n1 := n1.hold H
    clear H
    have c0_0 := S.c 0 0 rfl rfl
    have c0_1 := S.c 0 1 rfl rfl
    go_wp2_with fail
    clear c0_0 c0_1
    refine (S.call (text_any n1 HD.out.2)).mono ?_
    clear S
    rintro e w2 ⟨⟨s, rfl, hs⟩, S, H⟩
    replace n1 := n1.hold H
    clear H
    have c0_0 := S.c 0 0 rfl rfl
    have c0_1 := S.c 0 1 rfl rfl
    have HS := Lib.hid hs
    clear hs
    go_wp2_with fail
    exact bodyPost_ret (v := .string s) (by simp [results, Tryd.f33, go_sem]) rfl (⟨⟨_, rfl, .inr ⟨by have := H0.out; omega, HS.out⟩⟩, S.below⟩)

/-- What a text is read as: a whole number, or the number of the error. -/
def parseI (l : List Nat) : Int := if l.head? = some 45 then -(dv l.tail : Int) else dv l
def restI (l : List Nat) : List Nat := if l.head? = some 45 then l.tail else l

theorem bs_tail (s : ByteArray) (h : (bs s).head? = some 45) : bs (s.extract 1 s.size) = (bs s).tail := by
  rw [bs_extract]
  cases hb : bs s with
  | nil => rw [hb] at h; cases h
  | cons c l =>
    have hl : (bs s).length = s.size := bs_len s
    rw [hb] at hl
    simp at hl
    simp
    exact List.take_of_length_le (by omega)
theorem cut_any (s : ByteArray) (w : World) :
    Calls Tryd.prog 60 #[.string s, .string ⟨#[45]⟩] w fun e w' => (∃ t b, e = .returned (.tuple #[.string t, .bool b]) ∧ Hid (bs t = restI (bs s)) ∧ Hid (b = decide ((bs s).head? = some 45))) ∧ Below w.heap.size w w' := by
  by_cases h : (bs s).head? = some 45
  · refine (cut_yes s w h).mono fun e w' h1 => ⟨⟨_, _, h1.1, ?_, (decide_eq_true h).symm⟩, h1.2⟩
    show _ = _
    rw [bs_tail s h]
    unfold restI
    rw [if_pos h]
  · refine (cut_no s w h).mono fun e w' h1 => ⟨⟨_, _, h1.1, ?_, (decide_eq_false h).symm⟩, h1.2⟩
    show _ = _
    unfold restI
    rw [if_neg h]

set_option maxRecDepth 100000 in
set_option maxHeartbeats 1000000 in
theorem wparse_ok (s : ByteArray) (w : World) (ho : onlyB (restI (bs s)) = true) (hl : (restI (bs s)).length ≤ 4900) :
    Calls Tryd.prog 34 #[.string s] w fun e w' => (∃ u, e = .returned (.tuple #[u, .int .i64 0]) ∧ IsInt w' u (parseI (bs s))) ∧ Below w.heap.size w w' := by
  obtain ⟨x, hx⟩ : ∃ x, parseI (bs s) = x := ⟨_, rfl⟩
  have HD := Lib.hid (And.intro ho (And.intro hl hx))
  rw [hx]
  clear ho hl hx
  have S := (St.start w).alloc 25 [.bool false, .slice none 0 0] (w.heap.size)
  have c0_0 := S.c 0 0 rfl rfl
  have c0_1 := S.c 0 1 rfl rfl
  go_enter Tryd.func34, Tryd.ntmps34
  go_wp2_with fail
  clear c0_0 c0_1
  refine (S.call (cut_any s _)).mono ?_
  clear S
  rintro e w1 ⟨⟨t, b, rfl, ht, hb⟩, S, H⟩
  clear H
  have c0_0 := S.c 0 0 rfl rfl
  have c0_1 := S.c 0 1 rfl rfl
  have ho := HD.out.1
  have hl := HD.out.2.1
  rw [← ht.out] at ho hl
  rw [bs_len] at hl
  have HO := Lib.hid ho
  have HL := Lib.hid hl
  have HX := Lib.hid (show x = if b then -((dv (bs t) : Nat) : Int) else ((dv (bs t) : Nat) : Int) by
    rw [← HD.out.2.2, ht.out, hb.out]
    unfold parseI restI
    by_cases h : (bs s).head? = some 45 <;> simp [h])
  clear ho hl ht hb
  go_wp2_with fail
  clear c0_0 c0_1
  refine (S.call (parse_ok t _ HO.out HL.out)).mono ?_
  clear S
  rintro e w2 ⟨⟨v, rfl, nv⟩, S, H⟩
  clear H
  have c0_0 := S.c 0 0 rfl rfl
  have c0_1 := S.c 0 1 rfl rfl
  go_wp2_with fail
  clear c0_0 c0_1
  refine (S.call (signed_any b nv (dv_max (onlyB_out HO.out).1 (by rw [bs_len]; exact HL.out)) x HX.out)).mono ?_
  clear S
  rintro e w3 ⟨⟨u, rfl, p, l, K, rfl, hu⟩, S, H⟩
  replace nv := nv.hold H
  clear H
  have c0_0 := S.c 0 0 rfl rfl
  have c0_1 := S.c 0 1 rfl rfl
  have f0_0 := S.f 0 0 rfl
  have H := S.hset 0 0 (.bool (negB x)) rfl rfl (by intro q n e; cases e)
  replace S := S.set 0 0 (.bool (negB x)) rfl
  replace nv := nv.hold H
  replace hu := hu.hold H
  clear H
  have f0_1 := S.f 0 1 rfl
  have H := S.hset 0 1 (.slice p l K) rfl rfl (by intro q n e; cases e)
  replace S := S.set 0 1 (.slice p l K) rfl
  replace nv := nv.hold H
  replace hu := hu.hold H
  clear H
  go_wp2_with fail
  have d0_0 := S.c 0 0 rfl rfl
  have d0_1 := S.c 0 1 rfl rfl
  exact bodyPost_ret (v := .tuple #[.agg #[.bool (negB x), .slice p l K], .int .i64 0]) (by simp [results, Tryd.f34, go_sem, d0_0, d0_1]) rfl (⟨⟨_, rfl, p, l, K, rfl, hu⟩, S.below⟩)

set_option maxRecDepth 100000 in
set_option maxHeartbeats 1000000 in
theorem wparse_bad (s : ByteArray) (w : World) (ho : onlyB (restI (bs s)) = false) :
    Calls Tryd.prog 34 #[.string s] w fun e w' => (∃ u, e = .returned (.tuple #[u, .int .i64 2]) ∧ IsInt w' u 0) ∧ Below w.heap.size w w' := by
  have HD := Lib.hid ho
  clear ho
  have S := (St.start w).alloc 25 [.bool false, .slice none 0 0] (w.heap.size)
  have c0_0 := S.c 0 0 rfl rfl
  have c0_1 := S.c 0 1 rfl rfl
  go_enter Tryd.func34, Tryd.ntmps34
  go_wp2_with fail
  clear c0_0 c0_1
  refine (S.call (cut_any s _)).mono ?_
  clear S
  rintro e w1 ⟨⟨t, b, rfl, ht, hb⟩, S, H⟩
  clear H
  have c0_0 := S.c 0 0 rfl rfl
  have c0_1 := S.c 0 1 rfl rfl
  have ho := HD.out
  rw [← ht.out] at ho
  have HO := Lib.hid ho
  clear ho ht hb
  go_wp2_with fail
  clear c0_0 c0_1
  refine (S.call (parse_bad t _ HO.out)).mono ?_
  clear S
  rintro e w2 ⟨rfl, S, H⟩
  clear H
  have c0_0 := S.c 0 0 rfl rfl
  have c0_1 := S.c 0 1 rfl rfl
  go_wp2_with fail
  clear c0_0 c0_1
  refine (S.call (signed_any b (n := 0) ⟨[], .nil _ _, Can.nil _, rfl⟩ (lt_maxN (by decide)) 0 (by cases b <;> rfl))).mono ?_
  clear S
  rintro e w3 ⟨⟨u, rfl, p, l, K, rfl, hu⟩, S, H⟩
  clear H
  have c0_0 := S.c 0 0 rfl rfl
  have c0_1 := S.c 0 1 rfl rfl
  have f0_0 := S.f 0 0 rfl
  have H := S.hset 0 0 (.bool (negB 0)) rfl rfl (by intro q n e; cases e)
  replace S := S.set 0 0 (.bool (negB 0)) rfl
  replace hu := hu.hold H
  clear H
  have f0_1 := S.f 0 1 rfl
  have H := S.hset 0 1 (.slice p l K) rfl rfl (by intro q n e; cases e)
  replace S := S.set 0 1 (.slice p l K) rfl
  replace hu := hu.hold H
  clear H
  go_wp2_with fail
  have d0_0 := S.c 0 0 rfl rfl
  have d0_1 := S.c 0 1 rfl rfl
  exact bodyPost_ret (v := .tuple #[.agg #[.bool (negB 0), .slice p l K], .int .i64 2]) (by simp [results, Tryd.f34, go_sem, d0_0, d0_1]) rfl (⟨⟨_, rfl, p, l, K, rfl, hu⟩, S.below⟩)

set_option maxRecDepth 100000 in
set_option maxHeartbeats 1000000 in
theorem wparse_long (s : ByteArray) (w : World) (ho : onlyB (restI (bs s)) = true) (hl : 4900 < (restI (bs s)).length) :
    Calls Tryd.prog 34 #[.string s] w fun e w' => (∃ u, e = .returned (.tuple #[u, .int .i64 3]) ∧ IsInt w' u 0) ∧ Below w.heap.size w w' := by
  have HD := Lib.hid (And.intro ho hl)
  clear ho hl
  have S := (St.start w).alloc 25 [.bool false, .slice none 0 0] (w.heap.size)
  have c0_0 := S.c 0 0 rfl rfl
  have c0_1 := S.c 0 1 rfl rfl
  go_enter Tryd.func34, Tryd.ntmps34
  go_wp2_with fail
  clear c0_0 c0_1
  refine (S.call (cut_any s _)).mono ?_
  clear S
  rintro e w1 ⟨⟨t, b, rfl, ht, hb⟩, S, H⟩
  clear H
  have c0_0 := S.c 0 0 rfl rfl
  have c0_1 := S.c 0 1 rfl rfl
  have ho := HD.out
  rw [← ht.out, bs_len] at ho
  have HO := Lib.hid ho
  clear ho ht hb
  go_wp2_with fail
  clear c0_0 c0_1
  refine (S.call (parse_long t _ HO.out.1 HO.out.2)).mono ?_
  clear S
  rintro e w2 ⟨rfl, S, H⟩
  clear H
  have c0_0 := S.c 0 0 rfl rfl
  have c0_1 := S.c 0 1 rfl rfl
  go_wp2_with fail
  clear c0_0 c0_1
  refine (S.call (signed_any b (n := 0) ⟨[], .nil _ _, Can.nil _, rfl⟩ (lt_maxN (by decide)) 0 (by cases b <;> rfl))).mono ?_
  clear S
  rintro e w3 ⟨⟨u, rfl, p, l, K, rfl, hu⟩, S, H⟩
  clear H
  have c0_0 := S.c 0 0 rfl rfl
  have c0_1 := S.c 0 1 rfl rfl
  have f0_0 := S.f 0 0 rfl
  have H := S.hset 0 0 (.bool (negB 0)) rfl rfl (by intro q n e; cases e)
  replace S := S.set 0 0 (.bool (negB 0)) rfl
  replace hu := hu.hold H
  clear H
  have f0_1 := S.f 0 1 rfl
  have H := S.hset 0 1 (.slice p l K) rfl rfl (by intro q n e; cases e)
  replace S := S.set 0 1 (.slice p l K) rfl
  replace hu := hu.hold H
  clear H
  go_wp2_with fail
  have d0_0 := S.c 0 0 rfl rfl
  have d0_1 := S.c 0 1 rfl rfl
  exact bodyPost_ret (v := .tuple #[.agg #[.bool (negB 0), .slice p l K], .int .i64 3]) (by simp [results, Tryd.f34, go_sem, d0_0, d0_1]) rfl (⟨⟨_, rfl, p, l, K, rfl, hu⟩, S.below⟩)

end Go.Proofs.YtcopfjooopindaaDoor

namespace Go.Proofs.YtcopfjooopindaaDoor
open Go.RowKit

/-- A whole number that is tried: short, and as it should stand. -/
def Tried3 (k : Nat) (b : Bool) (ds : List Nat) : Prop := ds.length ≤ k ∧ cut ds = ds ∧ (b = true → ds ≠ [])

theorem At.nums {q : IntKind} {w : World} {p : Option Addr} {K : Nat} {ds : List Nat} (h : At q w p K ds) : Nums q w (.slice p ds.length K) ds := ⟨p, K, rfl, h⟩

set_option maxRecDepth 100000 in
set_option maxHeartbeats 1000000 in
theorem wcheck_raw (b : Bool) (p : Option Addr) (K l : Nat) (ds : List Nat) (w : World) (hat : At .u32 w p K ds) (hd : Dig 4294967296 ds) (hl : ds.length = l) (hl5 : l ≤ 512) :
    Calls Tryd.prog 24 #[.agg #[.bool b, .slice p l K]] w fun e w' => (∃ c : Int, e = .returned (.int .i64 c) ∧ Hid (c = 0 → cut ds = ds ∧ (b = true → ds ≠ []))) ∧ Below w.heap.size w w' := by
  subst hl
  have hn := hat.nums
  obtain ⟨l, hl⟩ : ∃ l, ds.length = l := ⟨_, rfl⟩
  have HD := Lib.hid (And.intro hd (And.intro hl5 hl))
  have HA := Lib.hid hat
  rw [hl] at hn
  rw [hl]
  clear hat
  by_cases hz : checkOf ds = 0
  · have hcut : cut ds = ds := by
      unfold checkOf at hz
      rw [if_neg (by omega)] at hz
      split at hz
      · omega
      · rename_i h2
        have := cut_le ds
        exact cut_full ds (by omega)
    have nn : IsNat w (.slice p l K) (val 4294967296 ds) := ⟨ds, hn, ⟨hd, hcut⟩, rfl⟩
    have hmax : val 4294967296 ds < maxN := Can.len_max ⟨hd, hcut⟩ |>.1 hl5
    have HC := Lib.hid (And.intro hcut hmax)
    clear hn hd hl5 hl hz hcut hmax
    cases b with
    | false =>
      have S := (St.start w).alloc 25 [.bool false, .slice p l K] (w.heap.size)
      replace nn := nn.hold S.hold
      have c0_0 := S.c 0 0 rfl rfl
      have c0_1 := S.c 0 1 rfl rfl
      go_enter Tryd.func24, Tryd.ntmps24
      go_wp2_with fail
      clear c0_0 c0_1
      refine (S.call (check_nat nn HC.out.2)).mono ?_
      clear S
      rintro e w1 ⟨rfl, S, H⟩
      replace nn := nn.hold H
      clear H
      have c0_0 := S.c 0 0 rfl rfl
      have c0_1 := S.c 0 1 rfl rfl
      go_wp2_with fail
      exact bodyPost_ret (v := .int .i64 0) (by simp [results, Tryd.f24, go_sem]) rfl (⟨⟨0, rfl, fun _ => ⟨HC.out.1, fun h => by cases h⟩⟩, S.below⟩)
    | true =>
      obtain ⟨t, ht⟩ : ∃ t, nbits (val 4294967296 ds) = t := ⟨_, rfl⟩
      have HT := Lib.hid ht
      clear ht
      have S := (St.start w).alloc 25 [.bool true, .slice p l K] (w.heap.size)
      replace nn := nn.hold S.hold
      have c0_0 := S.c 0 0 rfl rfl
      have c0_1 := S.c 0 1 rfl rfl
      go_enter Tryd.func24, Tryd.ntmps24
      go_wp2_with fail
      clear c0_0 c0_1
      refine (S.call (check_nat nn HC.out.2)).mono ?_
      clear S
      rintro e w1 ⟨rfl, S, H⟩
      replace nn := nn.hold H
      clear H
      have c0_0 := S.c 0 0 rfl rfl
      have c0_1 := S.c 0 1 rfl rfl
      go_wp2_with fail
      clear c0_0 c0_1
      refine (S.call (bits_nat nn HC.out.2 HT.out)).mono ?_
      clear S
      rintro e w2 ⟨rfl, S, H⟩
      replace nn := nn.hold H
      clear H
      have c0_0 := S.c 0 0 rfl rfl
      have c0_1 := S.c 0 1 rfl rfl
      by_cases h0 : t = 0
      · subst h0
        go_wp2_with fail
        exact bodyPost_ret (v := .int .i64 2) (by simp [results, Tryd.f24, go_sem]) rfl (⟨⟨2, rfl, fun h => by cases h⟩, S.below⟩)
      · have htI : ¬ ((t : Int) = 0) := by omega
        have HE := Lib.hid (show ds ≠ [] from fun e => h0 (by rw [← HT.out, e]; rfl))
        go_wp2_with fail
        exact bodyPost_ret (v := .int .i64 0) (by simp [results, Tryd.f24, go_sem]) rfl (⟨⟨0, rfl, fun _ => ⟨HC.out.1, fun _ => HE.out⟩⟩, S.below⟩)
  · obtain ⟨c, hc⟩ : ∃ c : Int, ((checkOf ds : Nat) : Int) = c := ⟨_, rfl⟩
    have hc0 : (c != 0) = true := by rw [← hc]; simp; omega
    have hc1 : ¬ c = 0 := by rw [← hc]; omega
    have HC := Lib.hid hc
    have H1 := Lib.hid hc1
    clear hn hd hl5 hl hz hc
    have S := (St.start w).alloc 25 [.bool b, .slice p l K] (w.heap.size)
    have c0_0 := S.c 0 0 rfl rfl
    have c0_1 := S.c 0 1 rfl rfl
    go_enter Tryd.func24, Tryd.ntmps24
    go_wp2_with fail
    clear c0_0 c0_1
    refine (S.call ((by have := check_any (w := _) (hv := ((HA.out.below S.below (Nat.le_refl _)).nums)) (by have := HD.out.2.1; omega); rw [HD.out.2.2, HC.out] at this; exact this))).mono ?_
    clear S
    rintro e w1 ⟨rfl, S, H⟩
    clear H
    have c0_0 := S.c 0 0 rfl rfl
    have c0_1 := S.c 0 1 rfl rfl
    go_wp2_with fail
    exact bodyPost_ret (v := .int .i64 c) (by simp [results, Tryd.f24, go_sem]) rfl (⟨⟨c, rfl, fun h => absurd h H1.out⟩, S.below⟩)

set_option maxRecDepth 100000 in
set_option maxHeartbeats 2000000 in
theorem wfit_any (g n : Nat) (B : Nat → Bool) (P : Nat → Option Addr) (K : Nat → Nat) (D : Nat → List Nat) (w : World) (hg : g < w.heap.size) (hn : n ≤ 1000)
    (hs : ∀ j, j < n → w.cell? ⟨g, j * 2, none⟩ = some (.bool (B j)) ∧ w.cell? ⟨g, j * 2 + 1, none⟩ = some (.slice (P j) (D j).length (K j)) ∧ At .u32 w (P j) (K j) (D j) ∧ Dig 4294967296 (D j)) :
    Calls Tryd.prog 10 #[.slice (some ⟨g, 0, none⟩) n n] w fun e w' => (∃ b, e = .returned (.bool b) ∧ Hid (b = true → ∀ j, j < n → Tried3 30 (B j) (D j))) ∧ Below w.heap.size w w' := by
  have HS := Lib.hid hs
  clear hs
  have S := St.start w
  go_enter Tryd.func10, Tryd.ntmps10
  go_wp2_with fail
  go_loopw [7] (fun si wr => ∃ k : Nat, k ≤ n ∧ si = .int .i64 k ∧ Hid (∀ j, j < k → Tried3 30 (B j) (D j)) ∧ St w wr []) (fun si _ => n - (intOf si).toNat)
  case atStart => exact ⟨0, by omega, rfl, fun j hj => by omega, S⟩
  case round =>
    obtain ⟨k, hk, rfl, hz, S⟩ := hrel
    by_cases hlt : k < n
    · have a0 := (S.below.cell (p := ⟨g, k * 2, none⟩) hg).trans (HS.out k hlt).1
      have a1 := (S.below.cell (p := ⟨g, k * 2 + 1, none⟩) hg).trans (HS.out k hlt).2.1
      have hat := (HS.out k hlt).2.2.1.below S.below (Nat.le_refl _)
      have HD := Lib.hid (HS.out k hlt).2.2.2
      have HL := Lib.hid hlt
      have hki : (k : Int) < ((n : Nat) : Int) := by omega
      obtain ⟨l, hl⟩ : ∃ l, (D k).length = l := ⟨_, rfl⟩
      have HL2 := Lib.hid hl
      rw [hl] at a1
      clear hl hlt
      by_cases h30 : 30 < l
      · have h30' : (30 : Int) < (l : Int) := by omega
        have H := S.hnew 25 [.bool (B k), .slice (P k) l (K k)]
        replace S := S.alloc 25 [.bool (B k), .slice (P k) l (K k)] (wr.heap.size)
        clear H
        have c0_0 := S.c 0 0 rfl rfl
        have c0_1 := S.c 0 1 rfl rfl
        go_wp2_with fail
        go_ret
        exact ⟨⟨false, rfl, fun h => by cases h⟩, S.below⟩
      · have h30' : ¬ (30 : Int) < (l : Int) := by omega
        have H := S.hnew 25 [.bool (B k), .slice (P k) l (K k)]
        replace S := S.alloc 25 [.bool (B k), .slice (P k) l (K k)] (wr.heap.size)
        replace hat := hat.hold H
        clear H
        have c0_0 := S.c 0 0 rfl rfl
        have c0_1 := S.c 0 1 rfl rfl
        go_wp2_with fail
        clear c0_0 c0_1
        refine (S.call (wcheck_raw (B k) (P k) (K k) l (D k) _ hat HD.out HL2.out (by omega))).mono ?_
        clear S
        rintro e w1 ⟨⟨c, rfl, hc⟩, S, H⟩
        replace hat := hat.hold H
        clear H
        have c0_0 := S.c 0 0 rfl rfl
        have c0_1 := S.c 0 1 rfl rfl
        by_cases h0 : c = 0
        · have h0' : (c != 0) = false := by rw [h0]; rfl
          have HT := Lib.hid (show Tried3 30 (B k) (D k) from ⟨by rw [HL2.out]; omega, (hc.out h0).1, (hc.out h0).2⟩)
          clear h0 hc
          go_wp2_with fail
          replace S := S.take 0 (L := []) rfl
          go_roundw
          case rel =>
            refine ⟨k + 1, HL.out, by go_num, fun j hj => ?_, S⟩
            by_cases hjk : j = k
            · rw [hjk]; exact HT.out
            · exact hz.out j (by omega)
          case measure => have := HL.out; simp [intOf]; omega
        · have h0' : (c != 0) = true := by simpa using h0
          clear h0 hc
          go_wp2_with fail
          go_ret
          exact ⟨⟨false, rfl, fun h => by cases h⟩, S.below⟩
    · have hge : ¬ (k : Int) < ((n : Nat) : Int) := by omega
      have HZ : ∀ j, j < n → Tried3 30 (B j) (D j) := fun j hj => hz.out j (by omega)
      have HZ := Lib.hid HZ
      clear hlt
      go_wp2
      go_ret
      first | exact ⟨⟨true, rfl, fun _ => HZ.out⟩, S.below⟩ | exact ⟨.inr rfl, S.below⟩

end Go.Proofs.YtcopfjooopindaaDoor

namespace Go.Proofs.YtcopfjooopindaaDoor
open Go.RowKit

section
variable {w W : World} {L : List (Nat × TypeId × List Value)} {b : Nat} {t : TypeId} {b0 b1 b2 : Bool} {p0 p1 p2 : Option Addr} {l0 l1 l2 K0 K1 K2 : Nat} {z0 z1 z2 : Int}
theorem ints3 (S : St w W L) (i : Nat) (hi : L[i]? = some (b, t, [.bool (negB z0), .slice p0 l0 K0, .bool (negB z1), .slice p1 l1 K1, .bool (negB z2), .slice p2 l2 K2]))
    (n0 : IsNat W (.slice p0 l0 K0) z0.natAbs) (n1 : IsNat W (.slice p1 l1 K1) z1.natAbs) (n2 : IsNat W (.slice p2 l2 K2) z2.natAbs) :
    IntsAt W b 3 (fun j => [p0, p1, p2].getD j none) (fun j => [l0, l1, l2].getD j 0) (fun j => [K0, K1, K2].getD j 0) (fun j => [z0, z1, z2].getD j 0) := by
  refine ⟨S.lt i hi, fun j hj => ?_⟩
  match j, hj with
  | 0, _ => exact ⟨S.c i 0 hi rfl, S.c i 1 hi rfl, n0⟩
  | 1, _ => exact ⟨S.c i 2 hi rfl, S.c i 3 hi rfl, n1⟩
  | 2, _ => exact ⟨S.c i 4 hi rfl, S.c i 5 hi rfl, n2⟩
theorem raws3 (S : St w W L) (i : Nat) {ds0 ds1 ds2 : List Nat} (hi : L[i]? = some (b, t, [.bool b0, .slice p0 l0 K0, .bool b1, .slice p1 l1 K1, .bool b2, .slice p2 l2 K2])) (e0 : ds0.length = l0) (e1 : ds1.length = l1) (e2 : ds2.length = l2)
    (a0 : At .u32 W p0 K0 ds0) (a1 : At .u32 W p1 K1 ds1) (a2 : At .u32 W p2 K2 ds2) (d0 : Dig 4294967296 ds0) (d1 : Dig 4294967296 ds1) (d2 : Dig 4294967296 ds2) :
    ∀ j, j < 3 → W.cell? ⟨b, j * 2, none⟩ = some (.bool ([b0, b1, b2].getD j false)) ∧ W.cell? ⟨b, j * 2 + 1, none⟩ = some (.slice ([p0, p1, p2].getD j none) ([ds0, ds1, ds2].getD j []).length ([K0, K1, K2].getD j 0)) ∧ At .u32 W ([p0, p1, p2].getD j none) ([K0, K1, K2].getD j 0) ([ds0, ds1, ds2].getD j []) ∧ Dig 4294967296 ([ds0, ds1, ds2].getD j []) := by
  subst e0; subst e1; subst e2
  intro j hj
  match j, hj with
  | 0, _ => exact ⟨S.c i 0 hi rfl, S.c i 1 hi rfl, a0, d0⟩
  | 1, _ => exact ⟨S.c i 2 hi rfl, S.c i 3 hi rfl, a1, d1⟩
  | 2, _ => exact ⟨S.c i 4 hi rfl, S.c i 5 hi rfl, a2, d2⟩
theorem raws2 (S : St w W L) (i : Nat) {ds0 ds1 : List Nat} (hi : L[i]? = some (b, t, [.bool b0, .slice p0 l0 K0, .bool b1, .slice p1 l1 K1])) (e0 : ds0.length = l0) (e1 : ds1.length = l1)
    (a0 : At .u32 W p0 K0 ds0) (a1 : At .u32 W p1 K1 ds1) (d0 : Dig 4294967296 ds0) (d1 : Dig 4294967296 ds1) :
    ∀ j, j < 2 → W.cell? ⟨b, j * 2, none⟩ = some (.bool ([b0, b1].getD j false)) ∧ W.cell? ⟨b, j * 2 + 1, none⟩ = some (.slice ([p0, p1].getD j none) ([ds0, ds1].getD j []).length ([K0, K1].getD j 0)) ∧ At .u32 W ([p0, p1].getD j none) ([K0, K1].getD j 0) ([ds0, ds1].getD j []) ∧ Dig 4294967296 ([ds0, ds1].getD j []) := by
  subst e0; subst e1
  intro j hj
  match j, hj with
  | 0, _ => exact ⟨S.c i 0 hi rfl, S.c i 1 hi rfl, a0, d0⟩
  | 1, _ => exact ⟨S.c i 2 hi rfl, S.c i 3 hi rfl, a1, d1⟩
theorem raws1 (S : St w W L) (i : Nat) {ds0 : List Nat} (hi : L[i]? = some (b, t, [.bool b0, .slice p0 l0 K0])) (e0 : ds0.length = l0)
    (a0 : At .u32 W p0 K0 ds0) (d0 : Dig 4294967296 ds0) :
    ∀ j, j < 1 → W.cell? ⟨b, j * 2, none⟩ = some (.bool ([b0].getD j false)) ∧ W.cell? ⟨b, j * 2 + 1, none⟩ = some (.slice ([p0].getD j none) ([ds0].getD j []).length ([K0].getD j 0)) ∧ At .u32 W ([p0].getD j none) ([K0].getD j 0) ([ds0].getD j []) ∧ Dig 4294967296 ([ds0].getD j []) := by
  subst e0
  intro j hj
  match j, hj with
  | 0, _ => exact ⟨S.c i 0 hi rfl, S.c i 1 hi rfl, a0, d0⟩
end
theorem wsum3 {g : Nat} {P : Nat → Option Addr} {l K : Nat → Nat} {w : World} {z0 z1 z2 : Int} (h : IntsAt w g 3 P l K (fun j => [z0, z1, z2].getD j 0)) (h0 : z0.natAbs < maxN) (h1 : z1.natAbs < maxN) (h2 : z2.natAbs < maxN) (h01 : (z0 + z1).natAbs < maxN) (z : Int) (hz : z0 + z1 + z2 = z) (h012 : z.natAbs < maxN) :
    Calls Tryd.prog 14 #[.slice (some ⟨g, 0, none⟩) 3 3] w fun e w' => (∃ u, e = .returned (.tuple #[u, .int .i64 0]) ∧ IsInt w' u z) ∧ Below w.heap.size w w' := by
  have e : sumTo (fun j => [z0, z1, z2].getD j 0) 3 = z := by subst hz; show 0 + z0 + z1 + z2 = _; omega
  have := wsum_any g 3 P l K _ w h (by decide) (fun j hj => by
    match j, hj with
    | 0, _ => exact h0
    | 1, _ => exact h1
    | 2, _ => exact h2) (fun j hj => by
    match j, hj with
    | 0, _ => show Int.natAbs 0 < maxN; exact lt_maxN (by decide)
    | 1, _ => show (0 + z0).natAbs < maxN; rw [Int.zero_add]; exact h0
    | 2, _ => show (0 + z0 + z1).natAbs < maxN; rw [Int.zero_add]; exact h01
    | 3, _ => rw [e]; exact h012)
  rwa [e] at this

end Go.Proofs.YtcopfjooopindaaDoor
