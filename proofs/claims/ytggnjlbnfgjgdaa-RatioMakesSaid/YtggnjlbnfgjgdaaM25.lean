/-
  strings.CutPrefix at "-"; whole.Text and Parse.
-/
import Derived.Test.YtggnjlbnfgjgdaaM14
import Derived.Test.YtggnjlbnfgjgdaaM22
import Derived.Test.YtggnjlbnfgjgdaaM24

namespace Go.Proofs.Ytggnjlbnfgjgdaa
open Go.RowKit

theorem text_len {l : List Nat} {m : Nat} (h : IsText l m) (hm : m < maxN) : l.length ≤ 5463 := by
  by_cases h1 : 1 < l.length
  · have h2 := Nat.lt_of_le_of_lt (h.low h1) hm
    obtain ⟨q, hq⟩ : ∃ q : Nat, q = 32 * 512 := ⟨_, rfl⟩
    rw [maxN_two q 512 rfl hq] at h2
    have h3 := Nat.pow_le_pow_left (show 2 ^ 3 ≤ 10 by decide) (l.length - 1)
    rw [← Nat.pow_mul] at h3
    have := (Nat.pow_lt_pow_iff_right (a := 2) (by decide)).1 (Nat.lt_of_le_of_lt h3 h2)
    omega
  · omega
/-- The text of a whole number: its digits, a - (45) ahead of those below nothing. -/
def IsIText (l : List Nat) (x : Int) : Prop := (x < 0 ∧ ∃ t, l = 45 :: t ∧ IsText t x.natAbs) ∨ (0 ≤ x ∧ IsText l x.natAbs)
theorem bs_dash (s : ByteArray) : bs (⟨#[45]⟩ ++ s) = 45 :: bs s := by
  unfold bs
  rw [ByteArray.data_append]
  simp

theorem dash_head (s : ByteArray) (h : 1 ≤ s.size) : ((s.extract 0 1).toList == [45]) = decide ((bs s).head? = some 45) := by
  rw [Lib.extract_toList]
  unfold bs
  have hl : 1 ≤ s.data.toList.length := by simpa using h
  cases hd : s.data.toList with
  | nil => rw [hd] at hl; simp at hl
  | cons c l =>
    simp
    rw [Bool.eq_iff_iff]
    simp
    exact ⟨fun e => by rw [e]; rfl, fun e => UInt8.toNat_inj.1 e⟩
theorem prefix_any (s : ByteArray) (w : World) (b : Bool) (h : decide ((bs s).head? = some 45) = b) :
    Calls Try.prog 107 #[.string s, .string ⟨#[45]⟩] w fun e w' => e = .returned (.bool b) ∧ w' = w := by
  by_cases h0 : s.size = 0
  · have h1 : ¬ (1 ≤ s.size) := by omega
    have hb : b = false := by
      have : bs s = [] := List.eq_nil_of_length_eq_zero (by rw [bs_len]; exact h0)
      rw [← h, this]
      rfl
    subst hb
    clear h h0
    go_enter Try.func107, Try.ntmps107
    go_wp2
    go_ret
    exact ⟨rfl, rfl⟩
  · have h1 : (1 ≤ s.size) := by omega
    have hd := (dash_head s h1).trans h
    clear h h0
    go_enter Try.func107, Try.ntmps107
    go_wp2
    go_ret
    exact ⟨rfl, rfl⟩
theorem cutin_no (s : ByteArray) (w : World) (h : (bs s).head? ≠ some 45) :
    Calls Try.prog 99 #[.string s, .string ⟨#[45]⟩] w fun e w' => e = .returned (.tuple #[.string s, .bool false]) ∧ w' = w := by
  have H := Lib.hid (prefix_any s w false (decide_eq_false h))
  clear h
  go_enter Try.func99, Try.ntmps99
  go_wp2_with (go_at_call 107; refine H.out.mono ?_; rintro e w1 ⟨rfl, rfl⟩)
  go_ret2
  exact ⟨rfl, rfl⟩
theorem cutin_yes (s : ByteArray) (w : World) (h : (bs s).head? = some 45) :
    Calls Try.prog 99 #[.string s, .string ⟨#[45]⟩] w fun e w' => e = .returned (.tuple #[.string (s.extract 1 s.size), .bool true]) ∧ w' = w := by
  have H := Lib.hid (prefix_any s w true (decide_eq_true h))
  have h1 : 1 ≤ s.size := by
    rw [← bs_len]
    cases hb : bs s with
    | nil => rw [hb] at h; cases h
    | cons => simp
  have h1I : (1 : Int) ≤ s.size := by omega
  clear h
  go_enter Try.func99, Try.ntmps99
  go_wp2_with (go_at_call 107; refine H.out.mono ?_; rintro e w1 ⟨rfl, rfl⟩)
  go_ret2
  exact ⟨rfl, rfl⟩
theorem cut_no (s : ByteArray) (w : World) (h : (bs s).head? ≠ some 45) :
    Calls Try.prog 88 #[.string s, .string ⟨#[45]⟩] w fun e w' => e = .returned (.tuple #[.string s, .bool false]) ∧ Below w.heap.size w w' := by
  have H := Lib.hid (cutin_no s w h)
  clear h
  go_enter Try.func88, Try.ntmps88
  go_wp2_with (go_at_call 99; refine H.out.mono ?_; rintro e w1 ⟨rfl, rfl⟩)
  go_ret2
  exact ⟨rfl, Below.refl _ _⟩
theorem cut_yes (s : ByteArray) (w : World) (h : (bs s).head? = some 45) :
    Calls Try.prog 88 #[.string s, .string ⟨#[45]⟩] w fun e w' => e = .returned (.tuple #[.string (s.extract 1 s.size), .bool true]) ∧ Below w.heap.size w w' := by
  have H := Lib.hid (cutin_yes s w h)
  clear h
  go_enter Try.func88, Try.ntmps88
  go_wp2_with (go_at_call 99; refine H.out.mono ?_; rintro e w1 ⟨rfl, rfl⟩)
  go_ret2
  exact ⟨rfl, Below.refl _ _⟩

set_option maxRecDepth 100000 in
set_option maxHeartbeats 1000000 in
theorem wtext_any {va : Value} {x : Int} {w : World} (ha : IsInt w va x) (hx : x.natAbs < maxN) :
    Calls Try.prog 44 #[va] w fun e w' => (∃ s, e = .returned (.string s) ∧ IsIText (bs s) x) ∧ Below w.heap.size w w' := by
  obtain ⟨p, l, K, rfl, n1⟩ := ha
  obtain ⟨b, hb⟩ : ∃ b, negB x = b := ⟨_, rfl⟩
  rw [hb]
  have HD := Lib.hid (And.intro hb hx)
  clear hb hx
  by_cases h0 : x < 0
  · have hsg := Lib.hid (Int.sign_eq_neg_one_of_neg h0)
    have H0 := Lib.hid h0
    clear h0
    have S := (St.start w).alloc 25 [.bool b, .slice p l K] (w.heap.size)
    replace n1 := n1.hold S.hold
    have c0_0 := S.c 0 0 rfl rfl
    have c0_1 := S.c 0 1 rfl rfl
    go_enter Try.func44, Try.ntmps44
    go_wp2_with fail
    clear c0_0 c0_1
    refine (S.call (wsign_any ⟨p, l, K, by rw [HD.out.1], n1⟩ HD.out.2 hsg.out)).mono ?_
    clear S
    rintro e w1 ⟨rfl, S, H⟩
    replace n1 := n1.hold H
    clear H
    have c0_0 := S.c 0 0 rfl rfl
    have c0_1 := S.c 0 1 rfl rfl
    go_wp2_with fail
    clear c0_0 c0_1
    refine (S.call (text_any n1 HD.out.2)).mono ?_
    clear S
    rintro e w2 ⟨⟨s, rfl, hs⟩, S, H⟩
    replace n1 := n1.hold H
    clear H
    have c0_0 := S.c 0 0 rfl rfl
    have c0_1 := S.c 0 1 rfl rfl
    have hl := text_len hs HD.out.2
    rw [bs_len] at hl
    have HS := Lib.hid hs
    clear hs
    go_wp2_with fail
    exact bodyPost_ret (v := .string (⟨#[45]⟩ ++ s)) (by simp [results, Try.f44, go_sem]) rfl (⟨⟨_, rfl, by rw [bs_dash]; exact .inl ⟨H0.out, _, rfl, HS.out⟩⟩, S.below⟩)
  · obtain ⟨sg, hsg⟩ : ∃ s, x.sign = s := ⟨_, rfl⟩
    have hs0 : ¬ sg < 0 := by rw [← hsg]; have := Int.sign_nonneg_iff.2 (Int.not_lt.1 h0); omega
    have hsg := Lib.hid hsg
    have H0 := Lib.hid h0
    clear h0
    have S := (St.start w).alloc 25 [.bool b, .slice p l K] (w.heap.size)
    replace n1 := n1.hold S.hold
    have c0_0 := S.c 0 0 rfl rfl
    have c0_1 := S.c 0 1 rfl rfl
    go_enter Try.func44, Try.ntmps44
    go_wp2_with fail
    clear c0_0 c0_1
    refine (S.call (wsign_any ⟨p, l, K, by rw [HD.out.1], n1⟩ HD.out.2 hsg.out)).mono ?_
    clear S
    rintro e w1 ⟨rfl, S, H⟩
    replace n1 := n1.hold H
    clear H
    have c0_0 := S.c 0 0 rfl rfl
    have c0_1 := S.c 0 1 rfl rfl
    go_wp2_with fail
    clear c0_0 c0_1
    refine (S.call (text_any n1 HD.out.2)).mono ?_
    clear S
    rintro e w2 ⟨⟨s, rfl, hs⟩, S, H⟩
    replace n1 := n1.hold H
    clear H
    have c0_0 := S.c 0 0 rfl rfl
    have c0_1 := S.c 0 1 rfl rfl
    have HS := Lib.hid hs
    clear hs
    go_wp2_with fail
    exact bodyPost_ret (v := .string s) (by simp [results, Try.f44, go_sem]) rfl (⟨⟨_, rfl, .inr ⟨by have := H0.out; omega, HS.out⟩⟩, S.below⟩)

/-- What a text is read as: a whole number, or the number of the error. -/
def parseI (l : List Nat) : Int := if l.head? = some 45 then -(dv l.tail : Int) else dv l
def restI (l : List Nat) : List Nat := if l.head? = some 45 then l.tail else l

theorem bs_tail (s : ByteArray) (h : (bs s).head? = some 45) : bs (s.extract 1 s.size) = (bs s).tail := by
  rw [bs_extract]
  cases hb : bs s with
  | nil => rw [hb] at h; cases h
  | cons c l =>
    have hl : (bs s).length = s.size := bs_len s
    rw [hb] at hl
    simp at hl
    simp
    exact List.take_of_length_le (by omega)
theorem cut_any (s : ByteArray) (w : World) :
    Calls Try.prog 88 #[.string s, .string ⟨#[45]⟩] w fun e w' => (∃ t b, e = .returned (.tuple #[.string t, .bool b]) ∧ Hid (bs t = restI (bs s)) ∧ Hid (b = decide ((bs s).head? = some 45))) ∧ Below w.heap.size w w' := by
  by_cases h : (bs s).head? = some 45
  · refine (cut_yes s w h).mono fun e w' h1 => ⟨⟨_, _, h1.1, ?_, (decide_eq_true h).symm⟩, h1.2⟩
    show _ = _
    rw [bs_tail s h]
    unfold restI
    rw [if_pos h]
  · refine (cut_no s w h).mono fun e w' h1 => ⟨⟨_, _, h1.1, ?_, (decide_eq_false h).symm⟩, h1.2⟩
    show _ = _
    unfold restI
    rw [if_neg h]

set_option maxRecDepth 100000 in
set_option maxHeartbeats 1000000 in
theorem wparse_ok (s : ByteArray) (w : World) (ho : onlyB (restI (bs s)) = true) (hl : (restI (bs s)).length ≤ 4900) :
    Calls Try.prog 69 #[.string s] w fun e w' => (∃ u, e = .returned (.tuple #[u, .int .i64 0]) ∧ IsInt w' u (parseI (bs s))) ∧ Below w.heap.size w w' := by
  obtain ⟨x, hx⟩ : ∃ x, parseI (bs s) = x := ⟨_, rfl⟩
  have HD := Lib.hid (And.intro ho (And.intro hl hx))
  rw [hx]
  clear ho hl hx
  have S := (St.start w).alloc 25 [.bool false, .slice none 0 0] (w.heap.size)
  have c0_0 := S.c 0 0 rfl rfl
  have c0_1 := S.c 0 1 rfl rfl
  go_enter Try.func69, Try.ntmps69
  go_wp2_with fail
  clear c0_0 c0_1
  refine (S.call (cut_any s _)).mono ?_
  clear S
  rintro e w1 ⟨⟨t, b, rfl, ht, hb⟩, S, H⟩
  clear H
  have c0_0 := S.c 0 0 rfl rfl
  have c0_1 := S.c 0 1 rfl rfl
  have ho := HD.out.1
  have hl := HD.out.2.1
  rw [← ht.out] at ho hl
  rw [bs_len] at hl
  have HO := Lib.hid ho
  have HL := Lib.hid hl
  have HX := Lib.hid (show x = if b then -((dv (bs t) : Nat) : Int) else ((dv (bs t) : Nat) : Int) by
    rw [← HD.out.2.2, ht.out, hb.out]
    unfold parseI restI
    by_cases h : (bs s).head? = some 45 <;> simp [h])
  clear ho hl ht hb
  go_wp2_with fail
  clear c0_0 c0_1
  refine (S.call (parse_ok t _ HO.out HL.out)).mono ?_
  clear S
  rintro e w2 ⟨⟨v, rfl, nv⟩, S, H⟩
  clear H
  have c0_0 := S.c 0 0 rfl rfl
  have c0_1 := S.c 0 1 rfl rfl
  go_wp2_with fail
  clear c0_0 c0_1
  refine (S.call (signed_any b nv (dv_max (onlyB_out HO.out).1 (by rw [bs_len]; exact HL.out)) x HX.out)).mono ?_
  clear S
  rintro e w3 ⟨⟨u, rfl, p, l, K, rfl, hu⟩, S, H⟩
  replace nv := nv.hold H
  clear H
  have c0_0 := S.c 0 0 rfl rfl
  have c0_1 := S.c 0 1 rfl rfl
  have f0_0 := S.f 0 0 rfl
  have H := S.hset 0 0 (.bool (negB x)) rfl rfl (by intro q n e; cases e)
  replace S := S.set 0 0 (.bool (negB x)) rfl
  replace nv := nv.hold H
  replace hu := hu.hold H
  clear H
  have f0_1 := S.f 0 1 rfl
  have H := S.hset 0 1 (.slice p l K) rfl rfl (by intro q n e; cases e)
  replace S := S.set 0 1 (.slice p l K) rfl
  replace nv := nv.hold H
  replace hu := hu.hold H
  clear H
  go_wp2_with fail
  have d0_0 := S.c 0 0 rfl rfl
  have d0_1 := S.c 0 1 rfl rfl
  exact bodyPost_ret (v := .tuple #[.agg #[.bool (negB x), .slice p l K], .int .i64 0]) (by simp [results, Try.f69, go_sem, d0_0, d0_1]) rfl (⟨⟨_, rfl, p, l, K, rfl, hu⟩, S.below⟩)

set_option maxRecDepth 100000 in
set_option maxHeartbeats 1000000 in
theorem wparse_bad (s : ByteArray) (w : World) (ho : onlyB (restI (bs s)) = false) :
    Calls Try.prog 69 #[.string s] w fun e w' => (∃ u, e = .returned (.tuple #[u, .int .i64 2]) ∧ IsInt w' u 0) ∧ Below w.heap.size w w' := by
  have HD := Lib.hid ho
  clear ho
  have S := (St.start w).alloc 25 [.bool false, .slice none 0 0] (w.heap.size)
  have c0_0 := S.c 0 0 rfl rfl
  have c0_1 := S.c 0 1 rfl rfl
  go_enter Try.func69, Try.ntmps69
  go_wp2_with fail
  clear c0_0 c0_1
  refine (S.call (cut_any s _)).mono ?_
  clear S
  rintro e w1 ⟨⟨t, b, rfl, ht, hb⟩, S, H⟩
  clear H
  have c0_0 := S.c 0 0 rfl rfl
  have c0_1 := S.c 0 1 rfl rfl
  have ho := HD.out
  rw [← ht.out] at ho
  have HO := Lib.hid ho
  clear ho ht hb
  go_wp2_with fail
  clear c0_0 c0_1
  refine (S.call (parse_bad t _ HO.out)).mono ?_
  clear S
  rintro e w2 ⟨rfl, S, H⟩
  clear H
  have c0_0 := S.c 0 0 rfl rfl
  have c0_1 := S.c 0 1 rfl rfl
  go_wp2_with fail
  clear c0_0 c0_1
  refine (S.call (signed_any b (n := 0) ⟨[], .nil _ _, Can.nil _, rfl⟩ (lt_maxN (by decide)) 0 (by cases b <;> rfl))).mono ?_
  clear S
  rintro e w3 ⟨⟨u, rfl, p, l, K, rfl, hu⟩, S, H⟩
  clear H
  have c0_0 := S.c 0 0 rfl rfl
  have c0_1 := S.c 0 1 rfl rfl
  have f0_0 := S.f 0 0 rfl
  have H := S.hset 0 0 (.bool (negB 0)) rfl rfl (by intro q n e; cases e)
  replace S := S.set 0 0 (.bool (negB 0)) rfl
  replace hu := hu.hold H
  clear H
  have f0_1 := S.f 0 1 rfl
  have H := S.hset 0 1 (.slice p l K) rfl rfl (by intro q n e; cases e)
  replace S := S.set 0 1 (.slice p l K) rfl
  replace hu := hu.hold H
  clear H
  go_wp2_with fail
  have d0_0 := S.c 0 0 rfl rfl
  have d0_1 := S.c 0 1 rfl rfl
  exact bodyPost_ret (v := .tuple #[.agg #[.bool (negB 0), .slice p l K], .int .i64 2]) (by simp [results, Try.f69, go_sem, d0_0, d0_1]) rfl (⟨⟨_, rfl, p, l, K, rfl, hu⟩, S.below⟩)

set_option maxRecDepth 100000 in
set_option maxHeartbeats 1000000 in
theorem wparse_long (s : ByteArray) (w : World) (ho : onlyB (restI (bs s)) = true) (hl : 4900 < (restI (bs s)).length) :
    Calls Try.prog 69 #[.string s] w fun e w' => (∃ u, e = .returned (.tuple #[u, .int .i64 3]) ∧ IsInt w' u 0) ∧ Below w.heap.size w w' := by
  have HD := Lib.hid (And.intro ho hl)
  clear ho hl
  have S := (St.start w).alloc 25 [.bool false, .slice none 0 0] (w.heap.size)
  have c0_0 := S.c 0 0 rfl rfl
  have c0_1 := S.c 0 1 rfl rfl
  go_enter Try.func69, Try.ntmps69
  go_wp2_with fail
  clear c0_0 c0_1
  refine (S.call (cut_any s _)).mono ?_
  clear S
  rintro e w1 ⟨⟨t, b, rfl, ht, hb⟩, S, H⟩
  clear H
  have c0_0 := S.c 0 0 rfl rfl
  have c0_1 := S.c 0 1 rfl rfl
  have ho := HD.out
  rw [← ht.out, bs_len] at ho
  have HO := Lib.hid ho
  clear ho ht hb
  go_wp2_with fail
  clear c0_0 c0_1
  refine (S.call (parse_long t _ HO.out.1 HO.out.2)).mono ?_
  clear S
  rintro e w2 ⟨rfl, S, H⟩
  clear H
  have c0_0 := S.c 0 0 rfl rfl
  have c0_1 := S.c 0 1 rfl rfl
  go_wp2_with fail
  clear c0_0 c0_1
  refine (S.call (signed_any b (n := 0) ⟨[], .nil _ _, Can.nil _, rfl⟩ (lt_maxN (by decide)) 0 (by cases b <;> rfl))).mono ?_
  clear S
  rintro e w3 ⟨⟨u, rfl, p, l, K, rfl, hu⟩, S, H⟩
  clear H
  have c0_0 := S.c 0 0 rfl rfl
  have c0_1 := S.c 0 1 rfl rfl
  have f0_0 := S.f 0 0 rfl
  have H := S.hset 0 0 (.bool (negB 0)) rfl rfl (by intro q n e; cases e)
  replace S := S.set 0 0 (.bool (negB 0)) rfl
  replace hu := hu.hold H
  clear H
  have f0_1 := S.f 0 1 rfl
  have H := S.hset 0 1 (.slice p l K) rfl rfl (by intro q n e; cases e)
  replace S := S.set 0 1 (.slice p l K) rfl
  replace hu := hu.hold H
  clear H
  go_wp2_with fail
  have d0_0 := S.c 0 0 rfl rfl
  have d0_1 := S.c 0 1 rfl rfl
  exact bodyPost_ret (v := .tuple #[.agg #[.bool (negB 0), .slice p l K], .int .i64 3]) (by simp [results, Try.f69, go_sem, d0_0, d0_1]) rfl (⟨⟨_, rfl, p, l, K, rfl, hu⟩, S.below⟩)

end Go.Proofs.Ytggnjlbnfgjgdaa
