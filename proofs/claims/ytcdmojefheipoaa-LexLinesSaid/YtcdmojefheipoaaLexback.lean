/-
  Tokens written again; line ends among them; remarks and blanks at lines' ends.
-/
import Derived.Test.YtcdmojefheipoaaLexmath
import Derived.Test.YtcdmojefheipoaaLexapart
namespace Go.Proofs.Ytcdmojefheipoaa
open Go.RowKit

/-- Tokens with blanks between, behind one of a kind. -/
def joinG : Option Nat → List (Nat × List Nat) → List Nat
  | _, [] => []
  | p, (k, x) :: r => (if p.any (fun q => apartK q k) = true then [32] else []) ++ (x ++ joinG (some k) r)
theorem joinG_end : ∀ (ts : List (Nat × List Nat)) (p : Option Nat), joinG p (ts ++ [(4, [])]) = joinG p ts
  | [], p => by
    have : p.any (fun q => apartK q 4) = false := by cases p <;> simp [apartK]
    simp [joinG, this]
  | (k, x) :: ts, p => by
    show _ ++ (x ++ joinG (some k) (ts ++ [(4, [])])) = _
    rw [joinG_end ts]; rfl
theorem TokOk.head {k : Nat} {x : List Nat} (h : TokOk (k, x)) : ∃ c t, x = c :: t ∧ inB blanksT c = false ∧ c ≠ 35 := by
  obtain ⟨h1, h2⟩ := h
  match x, h1 with
  | c :: t, _ =>
    have hn : ¬ (c = 9 ∨ c = 13 ∨ c = 32 ∨ c = 35) := fun e => by
      have := begin_none t e
      rw [h2] at this; simp at this
    refine ⟨c, t, rfl, ?_, by omega⟩
    cases hb : inB blanksT c with
    | false => rfl
    | true => have := blank_is hb; omega
theorem begin_kind {l : List Nat} (h : l ≠ []) : (beginL l).1 = 3 ↔ dg l 0 = 10 := by
  unfold beginL
  constructor
  · intro e
    split at e
    · simp at e
    split at e
    · simp at e
    split at e
    · simp at e
    split at e
    · assumption
    · simp at e
  · intro e
    have h1 : inB lettersT 10 = false := by decide +kernel
    have h2 : inB digitsT 10 = false := by decide +kernel
    rw [e, if_neg (by rw [h1]; decide), if_neg (by decide), if_neg (by rw [h2]; decide), if_pos rfl]
theorem begin_line (l : List Nat) : beginL (10 :: l) = (3, 1) := by
  have h1 : inB lettersT 10 = false := by decide +kernel
  have h2 : inB digitsT 10 = false := by decide +kernel
  unfold beginL
  rw [show dg (10 :: l) 0 = 10 from rfl, if_neg (by rw [h1]; decide), if_neg (by decide), if_neg (by rw [h2]; decide), if_pos rfl]
theorem TokOk.line {k : Nat} {x : List Nat} (h : TokOk (k, x)) : k = 3 ↔ x = [10] := by
  obtain ⟨h1, h2⟩ := h
  constructor
  · rintro rfl
    have h0 : (beginL x).1 = 3 := by rw [h2]
    have h3 := (begin_kind h1).1 h0
    match x, h1 with
    | c :: t, _ =>
      have : c = 10 := h3
      subst this
      change beginL (10 :: t) = (3, (10 :: t).length) at h2
      rw [begin_line] at h2
      have ht : t = [] := List.length_eq_zero_iff.1 (by simpa using h2)
      rw [ht]
  · rintro rfl
    change beginL [10] = (k, 1) at h2
    rw [begin_line] at h2
    exact (Prod.mk.inj h2).1.symm
theorem dropL_nil : dropL [] = [] := rfl
theorem dropL_head {c : Nat} {l : List Nat} (hc : inB blanksT c = false) (h : c ≠ 35) : dropL (c :: l) = c :: l := by
  unfold dropL; rw [left_zero l hc h]; rfl
theorem dropL_blank {c : Nat} {l : List Nat} (hc : inB blanksT c = false) (h : c ≠ 35) : dropL (32 :: c :: l) = c :: l := by
  unfold dropL; rw [left_one c l hc h]; rfl
/-- What a blank may stand ahead of. -/
theorem joinG_drop : ∀ (ts : List (Nat × List Nat)) (p : Option Nat), (∀ x, x ∈ ts → TokOk x) → dropL (joinG p ts) = joinG none ts
  | [], _, _ => rfl
  | (k, x) :: ts, p, h => by
    obtain ⟨c, t, hx, hb, h35⟩ := (h (k, x) (by simp)).head
    subst hx
    show dropL ((if p.any (fun q => apartK q k) = true then [32] else []) ++ (c :: (t ++ joinG (some k) ts))) = c :: (t ++ joinG (some k) ts)
    split
    · exact dropL_blank hb h35
    · exact dropL_head hb h35
/-- Written again, tokens are cut into the same tokens. -/
theorem scanF_join : ∀ (ts : List (Nat × List Nat)), (∀ x, x ∈ ts → TokOk x) → scanF (joinG none ts) = some ts
  | [], _ => rfl
  | (k, x) :: ts, h => by
    have h0 := h (k, x) (by simp)
    have h1 : ∀ y, y ∈ ts → TokOk y := fun y hy => h y (by simp [hy])
    have e : joinG none ((k, x) :: ts) = x ++ joinG (some k) ts := rfl
    have hne : x ≠ [] := h0.1
    have hp : 0 < x.length := List.length_pos_iff.2 hne
    have hb : beginL (x ++ joinG (some k) ts) = (k, x.length) := by
      by_cases hk : k = 3
      · have hx := h0.line.1 hk
        rw [hx, hk]; exact begin_line _
      · rw [begin_stop ?_ hne]; exact h0.2
        match ts, h1 with
        | [], _ => exact .inl rfl
        | (k2, y) :: ts, h1 =>
          by_cases hk2 : k2 = 3
          · have hy := (h1 (k2, y) (by simp)).line.1 hk2
            subst hk2 hy
            refine .inr ⟨10, joinG (some 3) ts, ?_, .inl rfl⟩
            show (if (some k).any (fun q => apartK q 3) = true then [32] else []) ++ ([10] ++ joinG (some 3) ts) = _
            rw [if_neg (by simp [apartK])]; rfl
          · by_cases hk4 : k2 = 4
            · have := (h1 (k2, y) (by simp)).2
              have h4 : ∀ l : List Nat, (beginL l).1 ≠ 4 := fun l => by
                unfold beginL; repeat (split; · simp)
                simp
              exact absurd (by rw [this, hk4]) (h4 y)
            · refine .inr ⟨32, y ++ joinG (some k2) ts, ?_, .inr rfl⟩
              show (if (some k).any (fun q => apartK q k2) = true then [32] else []) ++ (y ++ joinG (some k2) ts) = _
              rw [if_pos (by simp [apartK, hk, hk2, hk4])]; rfl
    rw [e]
    have hl : x ++ joinG (some k) ts ≠ [] := by simp [hne]
    rw [scanF_cons hl (by rw [hb]; show x.length ≠ 0; omega), hb]
    show (scanF (dropL ((x ++ joinG (some k) ts).drop x.length))).map ((k, (x ++ joinG (some k) ts).take x.length) :: ·) = _
    rw [List.drop_left, List.take_left, joinG_drop ts _ h1, scanF_join ts h1]; rfl
/-- How many line ends there are. -/
def lineN (l : List Nat) : Nat := l.count 10
theorem no_line {f : Nat → Bool} (h : f 10 = false) {l : List Nat} (hl : ∀ c, c ∈ l → f c = true) : lineN l = 0 := by
  unfold lineN
  rw [List.count_eq_zero]
  intro hm
  have := hl 10 hm
  rw [h] at this; cases this
theorem left_lines (l : List Nat) : lineN (l.take (leftL l)) = 0 := by
  obtain ⟨b, r, e, hb, hr⟩ := left_form l
  rw [e]
  unfold lineN
  rw [List.count_append]
  have h1 : b.count 10 = 0 := no_line (f := inB blanksT) (by decide +kernel) hb
  have h2 : r.count 10 = 0 := by
    rcases hr with rfl | ⟨t, rfl, ht⟩
    · rfl
    · rw [List.count_eq_zero]
      intro hm
      rcases List.mem_cons.1 hm with h | h
      · cases h
      · exact ht 10 h rfl
  omega
theorem dropL_lines (l : List Nat) : lineN (dropL l) = lineN l := by
  have h := left_lines l
  conv => rhs; rw [← List.take_append_drop (leftL l) l]
  unfold lineN at h ⊢
  rw [List.count_append, h, Nat.zero_add]; rfl
theorem cnt_mem {f : Nat → Bool} {x : List Nat} (h : cnt f x = x.length) (c : Nat) (hc : c ∈ x) : f c = true := cnt_full h c hc
/-- A number holds no line end. -/
theorem num_lines {x : List Nat} {f : Nat} (hf : lineN (x.take f) = 0) (h : numL x f = x.length) (hl : f ≤ x.length) : lineN x = 0 := by
  have hd : inB digitsT 10 = false := by decide +kernel
  have d1 := no_line (f := inB digitsT) hd (cnt_take (inB digitsT) (x.drop f))
  obtain ⟨a, ha⟩ : ∃ a, cnt (inB digitsT) (x.drop f) = a := ⟨_, rfl⟩
  unfold numL at h
  rw [ha] at h d1
  have hs : lineN x = lineN (x.take f) + (lineN ((x.drop f).take a) + lineN ((x.drop f).drop a)) := by
    unfold lineN
    rw [← List.count_append, List.take_append_drop, ← List.count_append, List.take_append_drop]
  rw [hs, hf, d1]
  have one : f + a = x.length → 0 + (0 + lineN ((x.drop f).drop a)) = 0 := fun e => by
    rw [List.drop_drop, List.drop_of_length_le (by omega)]; rfl
  by_cases h0 : a = 0
  · rw [if_pos h0] at h
    have : x = [] := List.length_eq_zero_iff.1 h.symm
    rw [this]; simp [lineN]
  rw [if_neg h0] at h
  split at h
  · exact one h
  split at h
  · exact one h
  rename_i h2 h3
  split at h
  · have : x = [] := List.length_eq_zero_iff.1 h.symm
    rw [this]; simp [lineN]
  obtain ⟨b, hb⟩ : ∃ b, cnt (inB digitsT) (x.drop (f + a + 1)) = b := ⟨_, rfl⟩
  rw [hb] at h
  have d2 := no_line (f := inB digitsT) hd (cnt_take (inB digitsT) (x.drop (f + a + 1)))
  rw [hb, List.take_of_length_le (by rw [List.length_drop]; omega)] at d2
  have hlt : f + a < x.length := by omega
  have e : (x.drop f).drop a = dg x (f + a) :: x.drop (f + a + 1) := by
    rw [List.drop_drop, List.drop_eq_getElem_cons hlt]
    congr 1
    simp [dg, hlt]
  rw [e]
  unfold lineN at d2 ⊢
  rw [List.count_cons, d2]
  have : dg x (f + a) = 46 ∨ dg x (f + a) = 47 := by omega
  rcases this with h | h <;> rw [h] <;> rfl
theorem TokOk.lines {k : Nat} {x : List Nat} (h : TokOk (k, x)) : lineN x = if k = 3 then 1 else 0 := by
  by_cases hk : k = 3
  · rw [if_pos hk, h.line.1 hk]; rfl
  rw [if_neg hk]
  obtain ⟨h1, h2⟩ := h
  change x ≠ [] at h1
  change beginL x = (k, x.length) at h2
  have hp : 0 < x.length := List.length_pos_iff.2 h1
  unfold beginL at h2
  split at h2
  · exact no_line (f := inB lettersT) (by decide +kernel) (cnt_full (Prod.mk.inj h2).2)
  split at h2
  · rename_i h3
    refine num_lines (f := 1) ?_ (Prod.mk.inj h2).2 hp
    match x, hp with
    | c :: t, _ =>
      have : c = 45 := h3
      subst this; rfl
  split at h2
  · exact num_lines (f := 0) (by rfl) (Prod.mk.inj h2).2 (Nat.zero_le _)
  split at h2
  · exact absurd (Prod.mk.inj h2).1.symm hk
  · rename_i h5
    have h6 := (Prod.mk.inj h2).2
    match x, hp with
    | [c], _ =>
      have : c ≠ 10 := h5
      simp [lineN, this]
    | [c, d], _ =>
      unfold signL at h6
      split at h6
      · rename_i h7
        simp at h7
        rcases h7 with ⟨rfl, rfl⟩ | ⟨rfl, rfl⟩ <;> rfl
      · split at h6 <;> simp at h6
    | c :: d :: e :: t, _ =>
      unfold signL at h6
      split at h6
      · simp at h6
      · split at h6 <;> simp at h6
def kindN (ts : List (Nat × List Nat)) : Nat := ts.countP fun x => decide (x.1 = 3)
theorem scanF_lines : ∀ (n : Nat) (l : List Nat), l.length ≤ n → ∀ ts, scanF l = some ts → kindN ts = lineN l
  | 0, l, hn, ts, h => by
    have : l = [] := List.length_eq_zero_iff.1 (by omega)
    subst this
    rw [scanF_nil] at h; cases h; rfl
  | n + 1, l, hn, ts, h => by
    by_cases hl : l = []
    · subst hl; rw [scanF_nil] at h; cases h; rfl
    have hp : 0 < l.length := List.length_pos_iff.2 hl
    by_cases h0 : (beginL l).2 = 0
    · rw [scanF_none hl h0] at h; cases h
    have hok := scanF_ok _ l (Nat.le_refl _) ts h
    rw [scanF_cons hl h0] at h
    obtain ⟨us, hu, rfl⟩ := Option.map_eq_some_iff.1 h
    have hd := dropL_len (l.drop (beginL l).2)
    rw [List.length_drop] at hd
    have ih := scanF_lines n _ (by omega) us hu
    have ht := (hok _ (List.mem_cons_self ..)).lines
    unfold kindN at ih ⊢
    rw [List.countP_cons, ih, dropL_lines]
    conv => rhs; rw [← List.take_append_drop (beginL l).2 l]
    unfold lineN at ht ⊢
    rw [List.count_append, ht, Nat.add_comm]
    simp
theorem joinG_lines : ∀ (ts : List (Nat × List Nat)) (p : Option Nat), (∀ x, x ∈ ts → TokOk x) → lineN (joinG p ts) = kindN ts
  | [], _, _ => rfl
  | (k, x) :: ts, p, h => by
    have ih := joinG_lines ts (some k) fun y hy => h y (by simp [hy])
    have ht := (h (k, x) (by simp)).lines
    unfold kindN at ih ⊢
    unfold lineN at ih ht ⊢
    show List.count 10 ((if p.any (fun q => apartK q k) = true then [32] else []) ++ (x ++ joinG (some k) ts)) = _
    rw [List.count_append, List.count_append, ih, ht, List.countP_cons]
    have : List.count 10 (if p.any (fun q => apartK q k) = true then [32] else []) = 0 := by split <;> rfl
    rw [this]
    simp [Nat.add_comm]

/-- Lines, with something between two. -/
def linesG (m : List Nat) : List (List Nat) → List Nat
  | [] => []
  | [u] => u
  | u :: v :: r => u ++ (m ++ linesG m (v :: r))
theorem dropL_app {b : List Nat} (hb : ∀ c, c ∈ b → inB blanksT c = true) (l : List Nat) : dropL (b ++ l) = dropL l := by
  unfold dropL leftL
  rw [cnt_app _ _ _ hb]
  have e : (b ++ l).drop (b.length + cnt (inB blanksT) l) = l.drop (cnt (inB blanksT) l) := by
    rw [← List.drop_drop, List.drop_left]
  rw [e]
  split
  · rw [Nat.add_assoc, ← List.drop_drop, List.drop_left]
  · rw [← List.drop_drop, List.drop_left]
/-- A remark, up to its line's end. -/
theorem dropL_remark {t : List Nat} (ht : ∀ c, c ∈ t → c ≠ 10) (l : List Nat) : dropL (35 :: (t ++ 10 :: l)) = 10 :: l := by
  have e : cnt (inB blanksT) (35 :: (t ++ 10 :: l)) = 0 := cnt_no _ _ _ (by decide +kernel)
  have e2 : cnt (fun c => !decide (c = 10)) (35 :: (t ++ 10 :: l)) = t.length + 1 := by
    have := cnt_app (fun c => !decide (c = 10)) (35 :: t) (10 :: l) (fun c hc => by
      rcases List.mem_cons.1 hc with rfl | h
      · rfl
      · simpa using ht c h)
    rw [cnt_no _ 10 l (by rfl)] at this
    simpa using this
  unfold dropL leftL
  rw [e, if_pos (by rfl), List.drop_zero, e2, Nat.zero_add]
  show (t ++ 10 :: l).drop t.length = _
  rw [List.drop_left]
/-- Blanks at a text's beginning, and what is none. -/
theorem blanks_split : ∀ u : List Nat, ∃ b v, u = b ++ v ∧ (∀ c, c ∈ b → inB blanksT c = true) ∧ (v = [] ∨ ∃ c t, v = c :: t ∧ inB blanksT c = false)
  | [] => ⟨[], [], rfl, by simp, .inl rfl⟩
  | c :: u => by
    cases hc : inB blanksT c with
    | false => exact ⟨[], c :: u, rfl, by simp, .inr ⟨c, u, rfl, hc⟩⟩
    | true =>
      obtain ⟨b, v, e, hb, hv⟩ := blanks_split u
      exact ⟨c :: b, v, by rw [e]; rfl, fun x hx => by
        rcases List.mem_cons.1 hx with rfl | h
        · exact hc
        · exact hb x h, hv⟩
/-- What stands behind a line's text: nothing, or a line's end and the other lines; with or without a remark. -/
def restG (m : List Nat) : List (List Nat) → List Nat
  | [] => []
  | v :: r => m ++ linesG m (v :: r)
theorem linesG_cons (m u : List Nat) (r : List (List Nat)) : linesG m (u :: r) = u ++ restG m r := by
  cases r with
  | nil => simp [linesG, restG]
  | cons v r => rfl
theorem scanF_line (l : List Nat) : scanF (10 :: l) = (scanF (dropL l)).map ((3, [10]) :: ·) := by
  rw [scanF_cons (by simp) (by rw [begin_line]; decide), begin_line]; rfl
theorem scanF_tok {l : List Nat} {k n : Nat} (hl : l ≠ []) (hb : beginL l = (k, n)) (h : n ≠ 0) : scanF l = (scanF (dropL (l.drop n))).map ((k, l.take n) :: ·) := by
  rw [scanF_cons hl (by rw [hb]; exact h), hb]
/-- Remarks at lines' ends change no token. -/
theorem scanF_remark {t : List Nat} (ht : ∀ c, c ∈ t → c ≠ 10) : ∀ (n : Nat) (u : List Nat) (r : List (List Nat)), u.length + (r.map (fun l => l.length + 1)).sum ≤ n →
    (∀ c, c ∈ u → c ≠ 10 ∧ c ≠ 35) → (∀ l, l ∈ r → ∀ c, c ∈ l → c ≠ 10 ∧ c ≠ 35) → scanF (dropL (u ++ restG [10] r)) = scanF (dropL (u ++ restG (32 :: 9 :: 35 :: (t ++ [10])) r)) := by
  intro n
  induction n with
  | zero =>
    intro u r hn _ _
    have h1 : u = [] := List.length_eq_zero_iff.1 (by omega)
    have h2 : r = [] := by
      cases r with
      | nil => rfl
      | cons v r => simp at hn
    rw [h1, h2]; rfl
  | succ n ih =>
    intro u r hn hu hr
    obtain ⟨b, v, rfl, hb, hv⟩ := blanks_split u
    rw [List.append_assoc, List.append_assoc, dropL_app hb, dropL_app hb]
    rcases hv with rfl | ⟨c, w, rfl, hc⟩
    · cases r with
      | nil => rfl
      | cons l r =>
        rw [List.nil_append, List.nil_append]
        have eA : restG [10] (l :: r) = 10 :: (l ++ restG [10] r) := by show [10] ++ linesG [10] (l :: r) = _; rw [linesG_cons]; rfl
        have eB : restG (32 :: 9 :: 35 :: (t ++ [10])) (l :: r) = [32, 9] ++ (35 :: (t ++ 10 :: (l ++ restG (32 :: 9 :: 35 :: (t ++ [10])) r))) := by
          show (32 :: 9 :: 35 :: (t ++ [10])) ++ linesG _ (l :: r) = _
          rw [linesG_cons]; simp
        rw [eA, eB, dropL_app (b := [32, 9]) (by intro x hx; simp at hx; rcases hx with rfl | rfl <;> decide +kernel), dropL_remark ht, dropL_head (by decide +kernel) (by decide)]
        rw [scanF_line, scanF_line, ih l r (by simp at hn; omega) (hr l (by simp)) fun x hx => hr x (by simp [hx])]
    · have h35 : c ≠ 35 := (hu c (by simp)).2
      have sA : Stop (restG [10] r) := by
        cases r with
        | nil => exact .inl rfl
        | cons l r => exact .inr ⟨10, _, rfl, .inl rfl⟩
      have sB : Stop (restG (32 :: 9 :: 35 :: (t ++ [10])) r) := by
        cases r with
        | nil => exact .inl rfl
        | cons l r => exact .inr ⟨32, _, rfl, .inr rfl⟩
      have dA : dropL (c :: w ++ restG [10] r) = c :: w ++ restG [10] r := dropL_head hc h35
      have dB : dropL (c :: w ++ restG (32 :: 9 :: 35 :: (t ++ [10])) r) = c :: w ++ restG (32 :: 9 :: 35 :: (t ++ [10])) r := dropL_head hc h35
      have bA := begin_stop sA (u := c :: w) (by simp)
      have bB := begin_stop sB (u := c :: w) (by simp)
      rw [dA, dB]
      by_cases h0 : (beginL (c :: w)).2 = 0
      · rw [scanF_none (by simp) (by rw [bA]; exact h0), scanF_none (by simp) (by rw [bB]; exact h0)]
      · have hle := begin_le (c :: w) (by simp)
        obtain ⟨k, m, hkm⟩ : ∃ k m, beginL (c :: w) = (k, m) := ⟨_, _, rfl⟩
        rw [hkm] at bA bB h0 hle
        have h0' : m ≠ 0 := h0
        have hle' : m ≤ (c :: w).length := hle
        rw [scanF_tok (by simp) bA h0', scanF_tok (by simp) bB h0', drop_app hle', drop_app hle', List.take_append_of_le_length hle', List.take_append_of_le_length hle']
        rw [ih ((c :: w).drop m) r (by rw [List.length_drop]; simp at hn ⊢; omega) (fun x hx => hu x (List.mem_append_right _ (List.mem_of_mem_drop hx))) hr]

end Go.Proofs.Ytcdmojefheipoaa
