/-
  What the statement stands on.
-/
import Derived.Test.YtcfgefbkeeedgaaGreatM26
import Derived.Test.YtcfgefbkeeedgaaGreatM37
namespace Go.Proofs.YtcfgefbkeeedgaaGreat
open Go.RowKit
theorem dig_text {l : List Nat} {n : Nat} (h : IsText l n) : DigL l := by
  obtain ⟨h1, _, h3, _⟩ := h
  refine ⟨List.length_pos_iff.2 h3, fun c hc => ?_⟩
  obtain ⟨a, b⟩ : 48 ≤ c ∧ c ≤ 57 := by simpa using h1 c hc
  exact ⟨⟨c - 48, by omega⟩, by show c = 48 + (c - 48); omega⟩
theorem num_two_at {l r : List Nat} (h : DigL l) (hr : DigL r) (p : List Nat) (c : Nat) (m : List Nat) (hc : inB digitsT c = false) : numL (p ++ (l ++ 47 :: (r ++ c :: m))) p.length = p.length + (l.length + 1 + r.length) := by
  have hqd : inB digitsT 47 = false := by decide +kernel
  have e : (p ++ (l ++ 47 :: (r ++ c :: m))).drop p.length = l ++ 47 :: (r ++ c :: m) := by simp
  have e2 : dg (p ++ (l ++ 47 :: (r ++ c :: m))) (p.length + l.length) = 47 := by
    rw [← List.append_assoc, ← List.length_append]; exact dg_app _ _ _
  have e3 : (p ++ (l ++ 47 :: (r ++ c :: m))).drop (p.length + l.length + 1) = r ++ c :: m := by
    rw [← List.append_assoc, ← List.length_append, ← List.drop_drop, List.drop_left]; rfl
  have := h.1
  have := hr.1
  unfold numL
  rw [e, cnt_dig h 47 _ hqd, if_neg (by omega), if_neg (by simp), e2, if_neg (by omega), e3, cnt_dig hr c m hc, if_neg (by omega)]
  omega
theorem blank_no : inB digitsT 32 = false := by decide +kernel
theorem stop32 : Stop [32] := .inr ⟨32, [], rfl, by decide⟩
theorem num_end1 {l : List Nat} (h : DigL l) (p : List Nat) : numL (p ++ l) p.length = p.length + l.length := by
  have e := num_stop (u := p ++ l) (r := [32]) (f := p.length) stop32 (by simp)
  rw [← e, List.append_assoc]
  exact num_one h p 32 [] blank_no (by decide) (by decide)
theorem num_end2 {l r : List Nat} (h : DigL l) (hr : DigL r) (p : List Nat) : numL (p ++ (l ++ 47 :: r)) p.length = p.length + (l.length + 1 + r.length) := by
  have e := num_stop (u := p ++ (l ++ 47 :: r)) (r := [32]) (f := p.length) stop32 (by simp)
  rw [← e, List.append_assoc, List.append_assoc, List.cons_append]
  exact num_two_at h hr p 32 [] blank_no
theorem begin_rtext {l : List Nat} {x : Rat} (h : IsRText l x) : beginL l = (1, l.length) ∧ leftL l = 0 ∧ l ≠ [] := by
  have hd : ∀ (k : Fin 10) (m : List Nat), leftL ((48 + k.val) :: m) = 0 := fun k m => left_zero m (dig_blank k) (by omega)
  have h45 : ∀ m, leftL (45 :: m) = 0 := fun m => left_zero m (by decide +kernel) (by decide)
  have dd : ∀ {t : List Nat}, DigL t → ∀ m, leftL (t ++ m) = 0 ∧ t ++ m ≠ [] := fun {t} ht m => by
    match t, ht with
    | c :: t, ht =>
      obtain ⟨k, rfl⟩ := ht.2 c (by simp)
      exact ⟨hd k _, by simp⟩
  rcases h with ⟨_, h⟩ | ⟨_, t, u, rfl, h, hu⟩
  · rcases h with ⟨_, t, rfl, ht⟩ | ⟨_, ht⟩
    · refine ⟨?_, h45 _, by simp⟩
      rw [begin_minus]
      have := num_end1 (dig_text ht) [45]
      simp only [List.cons_append, List.nil_append, List.length_cons, List.length_nil] at this ⊢
      rw [this]; congr 1; omega
    · have hl := dig_text ht
      have h1 := dd hl []
      rw [List.append_nil] at h1
      refine ⟨?_, h1⟩
      have := begin_dig hl []
      rw [List.append_nil] at this
      rw [this]
      have := num_end1 hl []
      simp only [List.nil_append, List.length_nil, Nat.zero_add] at this
      rw [this]
  · have hu' := dig_text hu
    rcases h with ⟨_, t, rfl, ht⟩ | ⟨_, ht⟩
    · refine ⟨?_, h45 _, by simp⟩
      rw [List.cons_append, begin_minus]
      have := num_end2 (dig_text ht) hu' [45]
      simp only [List.cons_append, List.nil_append, List.length_cons, List.length_nil] at this ⊢
      rw [this]; congr 1; simp only [List.length_append, List.length_cons]; omega
    · have hl := dig_text ht
      refine ⟨?_, dd hl _⟩
      rw [begin_dig hl]
      have := num_end2 hl hu' []
      simp only [List.nil_append, List.length_nil, Nat.zero_add] at this
      rw [this]; congr 1; simp only [List.length_append, List.length_cons]; omega
theorem extract_all (s : ByteArray) : s.extract 0 s.size = s := by simp
theorem scan_rtext {s : ByteArray} {x : Rat} (h : IsRText (bs s) x) (hs : s.size ≤ 16000) : scanL s = .ok [⟨1, 0, s⟩, ⟨4, s.size, ⟨#[]⟩⟩] := by
  obtain ⟨h1, h2, h3⟩ := begin_rtext h
  have hp : 0 < s.size := by rw [← bs_len]; exact List.length_pos_iff.2 h3
  rw [bs_len] at h1
  have hnil : leftL ([] : List Nat) = 0 := by decide +kernel
  have hdrop : (bs s).drop (0 + s.size) = [] := List.drop_of_length_le (by rw [bs_len]; omega)
  unfold scanL
  rw [if_neg (by omega), h2]
  have e : scanA s (s.size + 1) 0 [] = .ok [⟨1, 0, s⟩] := by
    unfold scanA
    rw [if_pos hp, List.drop_zero, h1, if_neg (show ¬ ((1, s.size) : Nat × Nat).2 = 0 from by show ¬ s.size = 0; omega), if_neg (by simp)]
    simp only
    rw [hdrop, hnil]
    obtain ⟨f, hf⟩ : ∃ f, s.size = f + 1 := ⟨s.size - 1, by omega⟩
    rw [show 0 + s.size + 0 = s.size by omega, Nat.zero_add, extract_all]
    rw [hf]
    unfold scanA
    rw [if_neg (by omega)]
    rfl
  rw [e]
  rfl
theorem nb_tens31 (a b : Nat) (ha : a = 31) (hb : b = 300) : NB a ≤ 10 ^ b := by subst ha hb; unfold NB; decide +kernel
theorem text_short31 {t : ByteArray} {q : Rat} (hq : RB q 31) (h : IsRText (bs t) q) : t.size ≤ 1000 := by
  obtain ⟨k, hk⟩ : ∃ k, k = 300 := ⟨_, rfl⟩
  have h1 := nb_tens31 31 k rfl hk
  have h2 := rtext_tens (k := k) h (Nat.le_of_lt (Nat.lt_of_lt_of_le hq.1 h1)) (Nat.le_of_lt (Nat.lt_of_lt_of_le hq.2 h1))
  rw [bs_len] at h2
  omega
theorem scan_num {s : ByteArray} {x : Rat} (h : IsRText (bs s) x) (hs : s.size ≤ 16000) (w : World) :
    Calls Tryz.prog 4 #[.string s] w fun e w' => (∃ g c, e = .returned (.tuple #[.slice (some ⟨g, 0, none⟩) 2 c, .agg #[.int .i64 0, .int .i64 0]]) ∧ g < w'.heap.size ∧ w'.cell? ⟨g, 0, none⟩ = some (.int .i64 1) ∧ w'.cell? ⟨g, 2, none⟩ = some (.string s)) ∧ Below w.heap.size w w' := by
  refine (scan_any s w).mono fun e w' ⟨h1, h2⟩ => ⟨?_, h2⟩
  unfold ScanOut at h1
  rw [scan_rtext h hs] at h1
  obtain ⟨v, rfl, ht⟩ := h1
  have hl : ([⟨1, 0, s⟩, ⟨4, s.size, ⟨#[]⟩⟩] : List Tk).length = 2 := rfl
  rcases ht.2 with ⟨_, e⟩ | ⟨g, cap, cur, e1, e2, e3, _⟩
  · rw [hl] at e; cases e
  · rw [hl] at e1
    subst e1
    have hc := World.ownsRow.cells ht (g := g) rfl
    have a0 := hc 0 (.int .i64 1) rfl
    have a2 := hc 2 (.string s) rfl
    have e : ∀ k, (⟨g, 0, none⟩ : Addr).add k = ⟨g, k, none⟩ := fun k => by unfold Addr.add; split <;> simp_all
    rw [e] at a0 a2
    exact ⟨g, cap, rfl, lt_of_heap e3, a0, a2⟩
theorem one_text : IsRText (bs ⟨#[49]⟩) 1 := .inl ⟨by decide +kernel, by rw [show (1 : Rat).num = 1 by decide +kernel]; exact .inr ⟨by decide, by decide, by decide, by decide, by decide⟩⟩
end Go.Proofs.YtcfgefbkeeedgaaGreat
