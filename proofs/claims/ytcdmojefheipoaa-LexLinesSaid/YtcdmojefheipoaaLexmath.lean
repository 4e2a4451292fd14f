/-
  Texts cut into tokens, as plain lists.
-/
import Derived.Test.YtcdmojefheipoaaLexnums
namespace Go.Proofs.Ytcdmojefheipoaa
open Go.RowKit

/-- What stands behind a token that is written: nothing, a blank, a line's end. -/
def Stop (r : List Nat) : Prop := r = [] ∨ ∃ c t, r = c :: t ∧ (c = 10 ∨ c = 32)
theorem cnt_full {f : Nat → Bool} : ∀ {l : List Nat}, cnt f l = l.length → ∀ c, c ∈ l → f c = true
  | [], _, c, hc => by simp at hc
  | x :: l, h, c, hc => by
    unfold cnt at h
    split at h
    · rename_i hx
      rcases List.mem_cons.1 hc with rfl | hc
      · exact hx
      · exact cnt_full (by simpa using h) c hc
    · simp at h
theorem cnt_take (f : Nat → Bool) : ∀ l : List Nat, ∀ c, c ∈ l.take (cnt f l) → f c = true
  | [], c, hc => by simp [cnt] at hc
  | x :: l, c, hc => by
    unfold cnt at hc
    split at hc
    · rename_i hx
      rw [List.take_succ_cons] at hc
      rcases List.mem_cons.1 hc with rfl | hc
      · exact hx
      · exact cnt_take f l c hc
    · simp at hc
/-- Behind what meets a test there stands what doesn't, or nothing. -/
theorem cnt_stop (f : Nat → Bool) : ∀ l : List Nat, ∀ c t, l.drop (cnt f l) = c :: t → f c = false
  | [], c, t, h => by simp [cnt] at h
  | x :: l, c, t, h => by
    unfold cnt at h
    split at h
    · exact cnt_stop f l c t (by simpa using h)
    · rename_i hx
      simp at h
      rw [← h.1]; simpa using hx
theorem cnt_all {f : Nat → Bool} {l : List Nat} (h : ∀ c, c ∈ l → f c = true) : cnt f l = l.length := by
  have := cnt_app f l [] h
  simpa [cnt] using this
theorem cnt_stop_app {f : Nat → Bool} : ∀ (u : List Nat) {r : List Nat}, (r = [] ∨ ∃ c t, r = c :: t ∧ f c = false) → cnt f (u ++ r) = cnt f u
  | [], r, h => by
    rcases h with rfl | ⟨c, t, rfl, h⟩
    · rfl
    · rw [List.nil_append, cnt_no _ _ _ h]; rfl
  | x :: u, r, h => by
    show cnt f (x :: (u ++ r)) = cnt f (x :: u)
    unfold cnt
    rw [cnt_stop_app u h]
theorem stop_no {f : Nat → Bool} (h10 : f 10 = false) (h32 : f 32 = false) {r : List Nat} (h : Stop r) : r = [] ∨ ∃ c t, r = c :: t ∧ f c = false := by
  rcases h with h | ⟨c, t, h, rfl | rfl⟩
  · exact .inl h
  · exact .inr ⟨_, t, h, h10⟩
  · exact .inr ⟨_, t, h, h32⟩
theorem dg_left {u r : List Nat} {j : Nat} (h : j < u.length) : dg (u ++ r) j = dg u j := by
  unfold dg; rw [List.getElem?_append_left h]
theorem dg_at {u : List Nat} {c : Nat} {t : List Nat} : dg (u ++ c :: t) u.length = c := by simp [dg]
theorem drop_app {u r : List Nat} {j : Nat} (h : j ≤ u.length) : (u ++ r).drop j = u.drop j ++ r := List.drop_append_of_le_length h
/-- A number is one whatever stops it. -/
theorem num_stop {u r : List Nat} {f : Nat} (hr : Stop r) (hf : f ≤ u.length) : numL (u ++ r) f = numL u f := by
  have hd := stop_no (f := inB digitsT) (by decide +kernel) (by decide +kernel) hr
  have e1 : cnt (inB digitsT) ((u ++ r).drop f) = cnt (inB digitsT) (u.drop f) := by rw [drop_app hf, cnt_stop_app _ hd]
  have h1 := cnt_le (inB digitsT) (u.drop f)
  rw [List.length_drop] at h1
  unfold numL
  rw [e1]
  by_cases h0 : cnt (inB digitsT) (u.drop f) = 0
  · rw [if_pos h0, if_pos h0]
  rw [if_neg h0, if_neg h0]
  by_cases he : f + cnt (inB digitsT) (u.drop f) = u.length
  · rw [if_pos he]
    rcases hr with rfl | ⟨c, t, rfl, hc⟩
    · rw [List.append_nil, if_pos he]
    · rw [if_neg (by simp; omega), he, dg_at, if_pos (by omega)]
  · have hlt : f + cnt (inB digitsT) (u.drop f) < u.length := by omega
    rw [if_neg he, if_neg (by simp; omega), dg_left hlt]
    split
    · rfl
    · rw [drop_app (by omega), cnt_stop_app _ hd]
theorem sign_stop {u r : List Nat} (hr : Stop r) (hu : u ≠ []) : signL (u ++ r) = signL u := by
  match u, hu with
  | [c], _ =>
    have h0 : ¬ (([c] ++ r).take 2 = [62, 61] ∨ ([c] ++ r).take 2 = [60, 61]) := by
      rcases hr with rfl | ⟨d, t, rfl, hd⟩
      · simp
      · simp; omega
    have h1 : ¬ ([c].take 2 = [62, 61] ∨ [c].take 2 = [60, 61]) := by simp
    unfold signL
    rw [if_neg h0, if_neg h1]; rfl
  | c :: d :: u, _ => rfl
/-- What begins a text is the same token, whatever stops it. -/
theorem begin_stop {u r : List Nat} (hr : Stop r) (hu : u ≠ []) : beginL (u ++ r) = beginL u := by
  have hl := stop_no (f := inB lettersT) (by decide +kernel) (by decide +kernel) hr
  have hn : 0 < u.length := List.length_pos_iff.2 hu
  unfold beginL
  rw [dg_left hn, cnt_stop_app _ hl, num_stop hr hn, num_stop hr (Nat.zero_le _), sign_stop hr hu]
/-- .. and the token alone. -/
theorem cnt_pre {f : Nat → Bool} : ∀ (x : List Nat) {r : List Nat}, cnt f (x ++ r) = x.length → cnt f x = x.length
  | [], _, _ => rfl
  | a :: x, r, h => by
    change cnt f (a :: (x ++ r)) = _ at h
    unfold cnt at h ⊢
    split at h
    · rename_i ha
      rw [if_pos ha, cnt_pre x (r := r) (by simpa using h)]; rfl
    · simp at h
theorem cnt_pre_lt {f : Nat → Bool} : ∀ (x : List Nat) {r : List Nat} {a : Nat}, cnt f (x ++ r) = a → a < x.length → cnt f x = a
  | [], _, _, _, h => by simp at h
  | y :: x, r, a, h, hl => by
    change cnt f (y :: (x ++ r)) = _ at h
    unfold cnt at h ⊢
    split at h
    · rename_i hy
      rw [if_pos hy]
      obtain ⟨b, rfl⟩ : ∃ b, a = b + 1 := ⟨a - 1, by omega⟩
      rw [cnt_pre_lt x (r := r) (a := b) (by omega) (by simpa using hl)]
    · rename_i hy
      rw [if_neg hy]; exact h
theorem num_pre {x r : List Nat} {f : Nat} (h : numL (x ++ r) f = x.length) (hf : f ≤ x.length) (hx : x ≠ []) : numL x f = x.length := by
  have hp : 0 < x.length := List.length_pos_iff.2 hx
  obtain ⟨a, ha⟩ : ∃ a, cnt (inB digitsT) ((x ++ r).drop f) = a := ⟨_, rfl⟩
  have ha' := ha
  rw [drop_app hf] at ha'
  unfold numL at h
  rw [ha] at h
  by_cases h0 : a = 0
  · rw [if_pos h0] at h; omega
  rw [if_neg h0] at h
  have one : f + a = x.length → numL x f = x.length := fun e => by
    have e1 : cnt (inB digitsT) (x.drop f) = a := by
      have := cnt_pre (f := inB digitsT) (x.drop f) (r := r) (by rw [ha', List.length_drop]; omega)
      rw [this, List.length_drop]; omega
    unfold numL
    rw [e1, if_neg h0, if_pos e]; exact e
  split at h
  · exact one h
  split at h
  · exact one h
  rename_i h2 h3
  split at h
  · omega
  rename_i h4
  obtain ⟨b, hb⟩ : ∃ b, cnt (inB digitsT) ((x ++ r).drop (f + a + 1)) = b := ⟨_, rfl⟩
  rw [hb] at h h4
  have e1 : cnt (inB digitsT) (x.drop f) = a := cnt_pre_lt _ ha' (by rw [List.length_drop]; omega)
  have e2 : cnt (inB digitsT) (x.drop (f + a + 1)) = b := by
    rw [drop_app (by omega)] at hb
    have := cnt_pre (f := inB digitsT) (x.drop (f + a + 1)) (r := r) (by rw [hb, List.length_drop]; omega)
    rw [this, List.length_drop]; omega
  rw [dg_left (by omega)] at h3
  unfold numL
  rw [e1, if_neg h0, if_neg (by omega), if_neg h3, e2, if_neg h4]; exact h
theorem sign_pre {x r : List Nat} (h : signL (x ++ r) = x.length) (hx : x ≠ []) : signL x = x.length := by
  match x, hx with
  | [c], _ =>
    unfold signL at h ⊢
    split at h
    · simp at h
    · rw [if_neg (by simp)]; exact h
  | [c, d], _ => exact h
  | c :: d :: e :: x, _ =>
    unfold signL at h
    split at h
    · simp at h
    · split at h <;> simp at h
theorem begin_pre {x r : List Nat} {k : Nat} (h : beginL (x ++ r) = (k, x.length)) (hx : x ≠ []) : beginL x = (k, x.length) := by
  have hp : 0 < x.length := List.length_pos_iff.2 hx
  unfold beginL at h ⊢
  rw [dg_left hp] at h
  split at h
  · rename_i h1
    rw [if_pos h1]
    obtain ⟨h2, h3⟩ := Prod.mk.inj h
    rw [cnt_pre _ h3, h2]
  rename_i h1
  rw [if_neg h1]
  split at h
  · rename_i h4
    rw [if_pos h4]
    obtain ⟨h2, h3⟩ := Prod.mk.inj h
    rw [num_pre h3 hp hx, h2]
  rename_i h4
  rw [if_neg h4]
  split at h
  · rename_i h5
    rw [if_pos h5]
    obtain ⟨h2, h3⟩ := Prod.mk.inj h
    rw [num_pre h3 (Nat.zero_le _) hx, h2]
  rename_i h5
  rw [if_neg h5]
  split at h
  · rename_i h6
    rw [if_pos h6]; exact h
  rename_i h6
  rw [if_neg h6]
  obtain ⟨h2, h3⟩ := Prod.mk.inj h
  rw [sign_pre h3 hx, h2]
/-- What may begin no token. -/
theorem begin_none {c : Nat} (l : List Nat) (hc : c = 9 ∨ c = 13 ∨ c = 32 ∨ c = 35) : (beginL (c :: l)).2 = 0 := by
  unfold beginL
  rw [show dg (c :: l) 0 = c from rfl]
  have h1 : inB lettersT c = false := by rcases hc with rfl | rfl | rfl | rfl <;> decide +kernel
  have h2 : inB digitsT c = false := by rcases hc with rfl | rfl | rfl | rfl <;> decide +kernel
  have h3 : inB signsT c = false := by rcases hc with rfl | rfl | rfl | rfl <;> decide +kernel
  rw [if_neg (by rw [h1]; decide), if_neg (by omega), if_neg (by rw [h2]; decide), if_neg (by omega)]
  show signL (c :: l) = 0
  unfold signL
  rw [if_neg (by cases l <;> simp <;> omega), show dg (c :: l) 0 = c from rfl, if_neg (by rw [h3]; decide)]
theorem blank_is {c : Nat} (h : inB blanksT c = true) : c = 32 ∨ c = 9 ∨ c = 13 := by
  have h1 : 0 ≤ posI c (bs blanksT) := by unfold inB at h; simpa using h
  by_cases h2 : c = 32 ∨ c = 9 ∨ c = 13
  · exact h2
  · exfalso
    have : c ∉ bs blanksT := by show c ∉ [32, 9, 13]; simp; omega
    unfold posI at h1
    rw [posOf_of_not this] at h1
    simp at h1
/-- What is left out at a text's beginning: blanks, then a remark perhaps. -/
theorem left_form (l : List Nat) : ∃ b r, l.take (leftL l) = b ++ r ∧ (∀ c, c ∈ b → inB blanksT c = true) ∧ (r = [] ∨ ∃ t, r = 35 :: t ∧ ∀ c, c ∈ t → c ≠ 10) := by
  have hb := cnt_take (inB blanksT) l
  unfold leftL
  split
  · rename_i h
    obtain ⟨t, ht⟩ : ∃ t, l.drop (cnt (inB blanksT) l) = 35 :: t := by
      cases hd : l.drop (cnt (inB blanksT) l) with
      | nil => rw [hd] at h; simp at h
      | cons c t => rw [hd] at h; simp at h; exact ⟨t, by rw [h]⟩
    refine ⟨_, _, List.take_add, hb, .inr ?_⟩
    have hr := cnt_take (fun c => !decide (c = 10)) (l.drop (cnt (inB blanksT) l))
    rw [ht] at hr ⊢
    have e : cnt (fun c => !decide (c = 10)) (35 :: t) = cnt (fun c => !decide (c = 10)) t + 1 := by
      conv => lhs; unfold cnt
      rw [if_pos (by decide)]
    rw [e, List.take_succ_cons] at hr ⊢
    exact ⟨_, rfl, fun c hc => by simpa using hr c (List.mem_cons_of_mem _ hc)⟩
  · exact ⟨_, [], by rw [List.append_nil], hb, .inl rfl⟩
theorem left_zero {c : Nat} (l : List Nat) (hc : inB blanksT c = false) (h : c ≠ 35) : leftL (c :: l) = 0 := by
  unfold leftL
  rw [cnt_no _ _ _ hc, if_neg (by simp; exact h)]
/-- What stands behind it. -/
def dropL (l : List Nat) : List Nat := l.drop (leftL l)
theorem dropL_len (l : List Nat) : (dropL l).length ≤ l.length := by unfold dropL; rw [List.length_drop]; omega
/-- Tokens: what they are, and their texts; none: what stands there is no token. -/
def scanG : Nat → List Nat → Option (List (Nat × List Nat))
  | 0, _ => some []
  | f + 1, l => if l = [] then some [] else if (beginL l).2 = 0 then none else (scanG f (dropL (l.drop (beginL l).2))).map (((beginL l).1, l.take (beginL l).2) :: ·)
theorem scanG_more : ∀ (f g : Nat) (l : List Nat), l.length < f → l.length < g → scanG f l = scanG g l
  | 0, _, _, h, _ => by omega
  | _ + 1, 0, _, _, h => by omega
  | f + 1, g + 1, l, h1, h2 => by
    unfold scanG
    split
    · rfl
    rename_i hl
    split
    · rfl
    rename_i h0
    have hp : 0 < l.length := List.length_pos_iff.2 hl
    have hd := dropL_len (l.drop (beginL l).2)
    rw [List.length_drop] at hd
    rw [scanG_more f g _ (by omega) (by omega)]
def scanF (l : List Nat) : Option (List (Nat × List Nat)) := scanG (l.length + 1) l
theorem scanF_nil : scanF [] = some [] := rfl
theorem scanF_none {l : List Nat} (hl : l ≠ []) (h : (beginL l).2 = 0) : scanF l = none := by
  unfold scanF scanG; rw [if_neg hl, if_pos h]
theorem scanF_cons {l : List Nat} (hl : l ≠ []) (h : (beginL l).2 ≠ 0) : scanF l = (scanF (dropL (l.drop (beginL l).2))).map (((beginL l).1, l.take (beginL l).2) :: ·) := by
  unfold scanF
  conv => lhs; unfold scanG
  rw [if_neg hl, if_neg h]
  have hp : 0 < l.length := List.length_pos_iff.2 hl
  have hd := dropL_len (l.drop (beginL l).2)
  rw [List.length_drop] at hd
  rw [scanG_more l.length _ _ (by omega) (Nat.lt_succ_self _)]
/-- A token of a text: its kind and its size are what its own text tells. -/
def TokOk (x : Nat × List Nat) : Prop := x.2 ≠ [] ∧ beginL x.2 = (x.1, x.2.length)
theorem scanF_ok : ∀ (n : Nat) (l : List Nat), l.length ≤ n → ∀ ts, scanF l = some ts → ∀ x, x ∈ ts → TokOk x
  | 0, l, hn, ts, h, x, hx => by
    have : l = [] := List.length_eq_zero_iff.1 (by omega)
    subst this
    rw [scanF_nil] at h
    cases h; simp at hx
  | n + 1, l, hn, ts, h, x, hx => by
    by_cases hl : l = []
    · subst hl; rw [scanF_nil] at h; cases h; simp at hx
    have hp : 0 < l.length := List.length_pos_iff.2 hl
    by_cases h0 : (beginL l).2 = 0
    · rw [scanF_none hl h0] at h; cases h
    rw [scanF_cons hl h0] at h
    obtain ⟨us, hu, rfl⟩ := Option.map_eq_some_iff.1 h
    have hle := begin_le l hp
    rcases List.mem_cons.1 hx with rfl | hx
    · have hne : l.take (beginL l).2 ≠ [] := by rw [Ne, List.take_eq_nil_iff]; exact fun e => e.elim h0 hl
      refine ⟨hne, ?_⟩
      have e : l.take (beginL l).2 ++ l.drop (beginL l).2 = l := List.take_append_drop _ _
      have hlen : (l.take (beginL l).2).length = (beginL l).2 := by rw [List.length_take]; omega
      exact begin_pre (r := l.drop (beginL l).2) (by rw [e, hlen]) hne
    · have hd := dropL_len (l.drop (beginL l).2)
      rw [List.length_drop] at hd
      exact scanF_ok n _ (by omega) us hu x hx

end Go.Proofs.Ytcdmojefheipoaa
