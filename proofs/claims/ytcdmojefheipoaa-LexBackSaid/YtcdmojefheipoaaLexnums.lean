/-
  What lex.Scan answers of a number between two blanks, as lists.
-/
import Derived.Test.YtcdmojefheipoaaLexscan
namespace Go.Proofs.Ytcdmojefheipoaa
open Go.RowKit

theorem cnt_app (f : Nat → Bool) : ∀ (l m : List Nat), (∀ c, c ∈ l → f c = true) → cnt f (l ++ m) = l.length + cnt f m
  | [], m, _ => by simp
  | c :: l, m, h => by
    show cnt f (c :: (l ++ m)) = _
    unfold cnt
    rw [if_pos (h c (by simp)), cnt_app f l m fun x hx => h x (by simp [hx])]
    cases m <;> simp [cnt] <;> omega
theorem cnt_no (f : Nat → Bool) (c : Nat) (l : List Nat) (h : f c = false) : cnt f (c :: l) = 0 := by
  unfold cnt; rw [if_neg (by rw [h]; decide)]
/-- Decimal digits, one at least. -/
def DigL (l : List Nat) : Prop := 0 < l.length ∧ ∀ c, c ∈ l → ∃ k : Fin 10, c = 48 + k.val
theorem dig_in : ∀ k : Fin 10, inB digitsT (48 + k.val) = true := by decide +kernel
theorem dig_letter : ∀ k : Fin 10, inB lettersT (48 + k.val) = false := by decide +kernel
theorem dig_blank : ∀ k : Fin 10, inB blanksT (48 + k.val) = false := by decide +kernel
theorem DigL.all {l : List Nat} (h : DigL l) : ∀ c, c ∈ l → inB digitsT c = true := fun c hc => by
  obtain ⟨k, rfl⟩ := h.2 c hc; exact dig_in k
theorem cnt_dig {l : List Nat} (h : DigL l) (c : Nat) (m : List Nat) (hc : inB digitsT c = false) : cnt (inB digitsT) (l ++ c :: m) = l.length := by
  rw [cnt_app _ _ _ h.all, cnt_no _ _ _ hc]; rfl
theorem dg_app (l : List Nat) (c : Nat) (m : List Nat) : dg (l ++ c :: m) l.length = c := by
  simp [dg]
/-- One run of digits, then a sign that goes on no number. -/
theorem num_one {l : List Nat} (h : DigL l) (p : List Nat) (c : Nat) (m : List Nat) (hc : inB digitsT c = false) (h1 : c ≠ 46) (h2 : c ≠ 47) : numL (p ++ (l ++ c :: m)) p.length = p.length + l.length := by
  have e : (p ++ (l ++ c :: m)).drop p.length = l ++ c :: m := by simp
  have e2 : dg (p ++ (l ++ c :: m)) (p.length + l.length) = c := by
    rw [← List.append_assoc, ← List.length_append]; exact dg_app _ _ _
  have := h.1
  unfold numL
  rw [e, cnt_dig h c m hc, if_neg (by omega), if_neg (by simp), e2, if_pos ⟨h1, h2⟩]
/-- Two runs with a point or a slash between them. -/
theorem num_two {l r : List Nat} (h : DigL l) (hr : DigL r) (q c : Nat) (m : List Nat) (hq : q = 46 ∨ q = 47) (hc : inB digitsT c = false) : numL (l ++ q :: (r ++ c :: m)) 0 = l.length + 1 + r.length := by
  have hqd : inB digitsT q = false := by rcases hq with rfl | rfl <;> decide +kernel
  have e2 : dg (l ++ q :: (r ++ c :: m)) (0 + l.length) = q := by rw [Nat.zero_add]; exact dg_app _ _ _
  have e3 : (l ++ q :: (r ++ c :: m)).drop (0 + l.length + 1) = r ++ c :: m := by
    rw [Nat.zero_add, ← List.drop_drop]; simp
  have := h.1
  have := hr.1
  unfold numL
  rw [List.drop_zero, cnt_dig h q _ hqd, if_neg (by omega), if_neg (by simp), e2, if_neg (by omega), e3, cnt_dig hr c m hc, if_neg (by omega)]
  omega
/-- A point or a slash with no digit behind it. -/
theorem num_none {l : List Nat} (h : DigL l) (q c : Nat) (m : List Nat) (hq : q = 46 ∨ q = 47) (hc : inB digitsT c = false) : numL (l ++ q :: c :: m) 0 = 0 := by
  have hqd : inB digitsT q = false := by rcases hq with rfl | rfl <;> decide +kernel
  have e2 : dg (l ++ q :: c :: m) (0 + l.length) = q := by rw [Nat.zero_add]; exact dg_app _ _ _
  have e3 : (l ++ q :: c :: m).drop (0 + l.length + 1) = c :: m := by
    rw [Nat.zero_add, ← List.drop_drop]; simp
  have := h.1
  unfold numL
  rw [List.drop_zero, cnt_dig h q _ hqd, if_neg (by omega), if_neg (by simp), e2, if_neg (by omega), e3, cnt_no _ _ _ hc, if_pos rfl]
theorem begin_dig {l : List Nat} (h : DigL l) (m : List Nat) : beginL (l ++ m) = (1, numL (l ++ m) 0) := by
  match l, h with
  | c :: l, h =>
    obtain ⟨k, rfl⟩ := h.2 c (by simp)
    unfold beginL
    rw [show dg ((48 + k.val) :: l ++ m) 0 = 48 + k.val from rfl, if_neg (by rw [dig_letter]; decide), if_neg (by omega), if_pos (dig_in k)]
theorem begin_minus (l : List Nat) : beginL (45 :: l) = (1, numL (45 :: l) 1) := by
  unfold beginL
  rw [show dg (45 :: l) 0 = 45 from rfl, if_neg (by decide +kernel), if_pos rfl]
/-- A blank, then what is no blank and no remark. -/
theorem left_one (c : Nat) (l : List Nat) (hc : inB blanksT c = false) (h : c ≠ 35) : leftL (32 :: c :: l) = 1 := by
  have e : cnt (inB blanksT) (32 :: c :: l) = 1 := by
    unfold cnt
    rw [if_pos (by decide +kernel), cnt_no _ _ _ hc]
  unfold leftL
  rw [e, if_neg (by simp; exact h)]
theorem left_blank : leftL [32] = 1 := by decide +kernel
/-- A token between two blanks. -/
theorem scan_token (s : ByteArray) (c : Nat) (l : List Nat) (k : Nat) (hb : bs s = 32 :: c :: (l ++ [32])) (hs : s.size ≤ 65536) (hc : inB blanksT c = false) (h35 : c ≠ 35) (hk : beginL (c :: (l ++ [32])) = (k, l.length + 1)) :
    scanL s = .ok [⟨k, 1, s.extract 1 (l.length + 2)⟩, ⟨4, s.size, ⟨#[]⟩⟩] := by
  have hz : s.size = l.length + 3 := by rw [← bs_len, hb]; simp
  have d1 : (bs s).drop 1 = c :: (l ++ [32]) := by rw [hb]; rfl
  have d2 : (bs s).drop (1 + (l.length + 1)) = [32] := by
    rw [← List.drop_drop, d1]; simp
  have e2 : scanA s (s.size + 1) (leftL (bs s)) [] = .ok [⟨k, 1, s.extract 1 (l.length + 2)⟩] := by
    rw [hb, left_one c _ hc h35, hz]
    unfold scanA
    rw [if_pos (by omega), d1, hk, d2, left_blank, if_neg (by simp), if_neg (by simp)]
    unfold scanA
    rw [if_neg (by omega)]
    show Except.ok _ = Except.ok _
    rw [show 1 + (l.length + 1) = l.length + 2 by omega]; rfl
  unfold scanL
  rw [if_neg (by omega), e2]; rfl
/-- What begins no token, behind a blank. -/
theorem scan_bad (s : ByteArray) (c : Nat) (l : List Nat) (hb : bs s = 32 :: c :: l) (hs : s.size ≤ 65536) (hc : inB blanksT c = false) (h35 : c ≠ 35) (hk : (beginL (c :: l)).2 = 0) : scanL s = .error (2, 1) := by
  have hz : s.size = l.length + 2 := by rw [← bs_len, hb]; simp
  have d1 : (bs s).drop 1 = c :: l := by rw [hb]; rfl
  have e2 : scanA s (s.size + 1) (leftL (bs s)) [] = .error (2, 1) := by
    rw [hb, left_one c _ hc h35, hz]
    unfold scanA
    rw [if_pos (by omega), d1, hk, if_pos rfl]
  unfold scanL
  rw [if_neg (by omega), e2]

end Go.Proofs.Ytcdmojefheipoaa
