/-
  What the statement stands on.
-/
import Derived.Test.YtcfgefbkeeedgaaGreatM28
import Derived.Test.YtcfgefbkeeedgaaGreatM32
namespace Go.Proofs.YtcfgefbkeeedgaaGreat
open Go.RowKit
theorem dash_head (s : ByteArray) (h : 1 ≤ s.size) : ((s.extract 0 1).toList == [45]) = decide ((bs s).head? = some 45) := by
  rw [Lib.extract_toList]
  unfold bs
  have hl : 1 ≤ s.data.toList.length := by simpa using h
  cases hd : s.data.toList with
  | nil => rw [hd] at hl; simp at hl
  | cons c l =>
    simp
    rw [Bool.eq_iff_iff]
    simp
    exact ⟨fun e => by rw [e]; rfl, fun e => UInt8.toNat_inj.1 e⟩
theorem prefix_any (s : ByteArray) (w : World) (b : Bool) (h : decide ((bs s).head? = some 45) = b) :
    Calls Tryz.prog 77 #[.string s, .string ⟨#[45]⟩] w fun e w' => e = .returned (.bool b) ∧ w' = w := by
  by_cases h0 : s.size = 0
  · have h1 : ¬ (1 ≤ s.size) := by omega
    have hb : b = false := by
      have : bs s = [] := List.eq_nil_of_length_eq_zero (by rw [bs_len]; exact h0)
      rw [← h, this]
      rfl
    subst hb
    clear h h0
    go_enter Tryz.func77, Tryz.ntmps77
    go_wp2
    go_ret
    exact ⟨rfl, rfl⟩
  · have h1 : (1 ≤ s.size) := by omega
    have hd := (dash_head s h1).trans h
    clear h h0
    go_enter Tryz.func77, Tryz.ntmps77
    go_wp2
    go_ret
    exact ⟨rfl, rfl⟩
theorem cutin_no (s : ByteArray) (w : World) (h : (bs s).head? ≠ some 45) :
    Calls Tryz.prog 96 #[.string s, .string ⟨#[45]⟩] w fun e w' => e = .returned (.tuple #[.string s, .bool false]) ∧ w' = w := by
  have H := Lib.hid (prefix_any s w false (decide_eq_false h))
  clear h
  go_enter Tryz.func96, Tryz.ntmps96
  go_wp2_with (go_at_call 77; refine H.out.mono ?_; rintro e w1 ⟨rfl, rfl⟩)
  go_ret2
  exact ⟨rfl, rfl⟩
theorem cutin_yes (s : ByteArray) (w : World) (h : (bs s).head? = some 45) :
    Calls Tryz.prog 96 #[.string s, .string ⟨#[45]⟩] w fun e w' => e = .returned (.tuple #[.string (s.extract 1 s.size), .bool true]) ∧ w' = w := by
  have H := Lib.hid (prefix_any s w true (decide_eq_true h))
  have h1 : 1 ≤ s.size := by
    rw [← bs_len]
    cases hb : bs s with
    | nil => rw [hb] at h; cases h
    | cons => simp
  have h1I : (1 : Int) ≤ s.size := by omega
  clear h
  go_enter Tryz.func96, Tryz.ntmps96
  go_wp2_with (go_at_call 77; refine H.out.mono ?_; rintro e w1 ⟨rfl, rfl⟩)
  go_ret2
  exact ⟨rfl, rfl⟩
theorem cut_no (s : ByteArray) (w : World) (h : (bs s).head? ≠ some 45) :
    Calls Tryz.prog 72 #[.string s, .string ⟨#[45]⟩] w fun e w' => e = .returned (.tuple #[.string s, .bool false]) ∧ Below w.heap.size w w' := by
  have H := Lib.hid (cutin_no s w h)
  clear h
  go_enter Tryz.func72, Tryz.ntmps72
  go_wp2_with (go_at_call 96; refine H.out.mono ?_; rintro e w1 ⟨rfl, rfl⟩)
  go_ret2
  exact ⟨rfl, Below.refl _ _⟩
theorem cut_yes (s : ByteArray) (w : World) (h : (bs s).head? = some 45) :
    Calls Tryz.prog 72 #[.string s, .string ⟨#[45]⟩] w fun e w' => e = .returned (.tuple #[.string (s.extract 1 s.size), .bool true]) ∧ Below w.heap.size w w' := by
  have H := Lib.hid (cutin_yes s w h)
  clear h
  go_enter Tryz.func72, Tryz.ntmps72
  go_wp2_with (go_at_call 96; refine H.out.mono ?_; rintro e w1 ⟨rfl, rfl⟩)
  go_ret2
  exact ⟨rfl, Below.refl _ _⟩
def parseI (l : List Nat) : Int := if l.head? = some 45 then -(dv l.tail : Int) else dv l
def restI (l : List Nat) : List Nat := if l.head? = some 45 then l.tail else l
theorem bs_tail (s : ByteArray) (h : (bs s).head? = some 45) : bs (s.extract 1 s.size) = (bs s).tail := by
  rw [bs_extract]
  cases hb : bs s with
  | nil => rw [hb] at h; cases h
  | cons c l =>
    have hl : (bs s).length = s.size := bs_len s
    rw [hb] at hl
    simp at hl
    simp
    exact List.take_of_length_le (by omega)
theorem cut_any (s : ByteArray) (w : World) :
    Calls Tryz.prog 72 #[.string s, .string ⟨#[45]⟩] w fun e w' => (∃ t b, e = .returned (.tuple #[.string t, .bool b]) ∧ Hid (bs t = restI (bs s)) ∧ Hid (b = decide ((bs s).head? = some 45))) ∧ Below w.heap.size w w' := by
  by_cases h : (bs s).head? = some 45
  · refine (cut_yes s w h).mono fun e w' h1 => ⟨⟨_, _, h1.1, ?_, (decide_eq_true h).symm⟩, h1.2⟩
    show _ = _
    rw [bs_tail s h]
    unfold restI
    rw [if_pos h]
  · refine (cut_no s w h).mono fun e w' h1 => ⟨⟨_, _, h1.1, ?_, (decide_eq_false h).symm⟩, h1.2⟩
    show _ = _
    unfold restI
    rw [if_neg h]
set_option maxRecDepth 100000 in
set_option maxHeartbeats 1000000 in
theorem wparse_ok (s : ByteArray) (w : World) (ho : onlyB (restI (bs s)) = true) (hl : (restI (bs s)).length ≤ 4900) :
    Calls Tryz.prog 34 #[.string s] w fun e w' => (∃ u, e = .returned (.tuple #[u, .int .i64 0]) ∧ IsInt w' u (parseI (bs s))) ∧ Below w.heap.size w w' := by
  obtain ⟨x, hx⟩ : ∃ x, parseI (bs s) = x := ⟨_, rfl⟩
  have HD := Lib.hid (And.intro ho (And.intro hl hx))
  rw [hx]
  clear ho hl hx
  have S := (St.start w).alloc 37 [.bool false, .slice none 0 0] (w.heap.size)
  try simp only [List.nil_append] at S
  have c0_0 := S.c 0 0 rfl rfl; have c0_1 := S.c 0 1 rfl rfl
  go_enter Tryz.func34, Tryz.ntmps34
  go_wp2_with fail; clear c0_0 c0_1
  refine (S.call (cut_any s _)).mono ?_
  clear S
  rintro e w1 ⟨⟨t, b, rfl, ht, hb⟩, S, H⟩
  clear H; have c0_0 := S.c 0 0 rfl rfl; have c0_1 := S.c 0 1 rfl rfl
  have ho := HD.out.1
  have hl := HD.out.2.1
  rw [← ht.out] at ho hl
  rw [bs_len] at hl
  have HO := Lib.hid ho
  have HL := Lib.hid hl
  have HX := Lib.hid (show x = if b then -((dv (bs t) : Nat) : Int) else ((dv (bs t) : Nat) : Int) by
    rw [← HD.out.2.2, ht.out, hb.out]
    unfold parseI restI
    by_cases h : (bs s).head? = some 45 <;> simp [h])
  clear ho hl ht hb; go_wp2_with fail; clear c0_0 c0_1
  refine (S.call (parse_ok t _ HO.out HL.out)).mono ?_
  clear S
  rintro e w2 ⟨⟨v, rfl, nv⟩, S, H⟩
  clear H; have c0_0 := S.c 0 0 rfl rfl; have c0_1 := S.c 0 1 rfl rfl; go_wp2_with fail; clear c0_0 c0_1
  refine (S.call (signed_any b nv (dv_max (onlyB_out HO.out).1 (by rw [bs_len]; exact HL.out)) x HX.out)).mono ?_
  clear S
  rintro e w3 ⟨⟨u, rfl, p, l, K, rfl, hu⟩, S, H⟩
  replace nv := nv.hold H; clear H; have c0_0 := S.c 0 0 rfl rfl; have c0_1 := S.c 0 1 rfl rfl; have f0_0 := S.f 0 0 rfl
  have H := S.hset 0 0 (.bool (negB x)) rfl rfl (by intro q n e; cases e)
  replace S := S.set 0 0 (.bool (negB x)) rfl
  replace nv := nv.hold H; replace hu := hu.hold H; clear H; have f0_1 := S.f 0 1 rfl
  have H := S.hset 0 1 (.slice p l K) rfl rfl (by intro q n e; cases e)
  replace S := S.set 0 1 (.slice p l K) rfl
  replace nv := nv.hold H; replace hu := hu.hold H; clear H; go_wp2_with fail; have d0_0 := S.c 0 0 rfl rfl; have d0_1 := S.c 0 1 rfl rfl
  exact bodyPost_ret (v := .tuple #[.agg #[.bool (negB x), .slice p l K], .int .i64 0]) (by simp [results, Tryz.f34, go_sem, d0_0, d0_1]) rfl (⟨⟨_, rfl, p, l, K, rfl, hu⟩, S.below⟩)
set_option maxRecDepth 100000 in
set_option maxHeartbeats 1000000 in
theorem wparse_bad (s : ByteArray) (w : World) (ho : onlyB (restI (bs s)) = false) :
    Calls Tryz.prog 34 #[.string s] w fun e w' => (∃ u, e = .returned (.tuple #[u, .int .i64 2]) ∧ IsInt w' u 0) ∧ Below w.heap.size w w' := by
  have HD := Lib.hid ho
  clear ho
  have S := (St.start w).alloc 37 [.bool false, .slice none 0 0] (w.heap.size)
  try simp only [List.nil_append] at S
  have c0_0 := S.c 0 0 rfl rfl; have c0_1 := S.c 0 1 rfl rfl
  go_enter Tryz.func34, Tryz.ntmps34
  go_wp2_with fail; clear c0_0 c0_1
  refine (S.call (cut_any s _)).mono ?_
  clear S
  rintro e w1 ⟨⟨t, b, rfl, ht, hb⟩, S, H⟩
  clear H; have c0_0 := S.c 0 0 rfl rfl; have c0_1 := S.c 0 1 rfl rfl
  have ho := HD.out
  rw [← ht.out] at ho
  have HO := Lib.hid ho
  clear ho ht hb; go_wp2_with fail; clear c0_0 c0_1
  refine (S.call (parse_bad t _ HO.out)).mono ?_
  clear S
  rintro e w2 ⟨rfl, S, H⟩
  clear H; have c0_0 := S.c 0 0 rfl rfl; have c0_1 := S.c 0 1 rfl rfl; go_wp2_with fail; clear c0_0 c0_1
  refine (S.call (signed_any b (n := 0) ⟨[], .nil _ _, Can.nil _, rfl⟩ (lt_maxN (by decide)) 0 (by cases b <;> rfl))).mono ?_
  clear S
  rintro e w3 ⟨⟨u, rfl, p, l, K, rfl, hu⟩, S, H⟩
  clear H; have c0_0 := S.c 0 0 rfl rfl; have c0_1 := S.c 0 1 rfl rfl; have f0_0 := S.f 0 0 rfl
  have H := S.hset 0 0 (.bool (negB 0)) rfl rfl (by intro q n e; cases e)
  replace S := S.set 0 0 (.bool (negB 0)) rfl
  replace hu := hu.hold H; clear H; have f0_1 := S.f 0 1 rfl
  have H := S.hset 0 1 (.slice p l K) rfl rfl (by intro q n e; cases e)
  replace S := S.set 0 1 (.slice p l K) rfl
  replace hu := hu.hold H; clear H; go_wp2_with fail; have d0_0 := S.c 0 0 rfl rfl; have d0_1 := S.c 0 1 rfl rfl
  exact bodyPost_ret (v := .tuple #[.agg #[.bool (negB 0), .slice p l K], .int .i64 2]) (by simp [results, Tryz.f34, go_sem, d0_0, d0_1]) rfl (⟨⟨_, rfl, p, l, K, rfl, hu⟩, S.below⟩)
end Go.Proofs.YtcfgefbkeeedgaaGreat
